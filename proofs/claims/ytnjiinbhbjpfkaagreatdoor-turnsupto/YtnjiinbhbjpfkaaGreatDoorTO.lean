import Derived.Test.YtnjiinbhbjpfkaaGreatDoorTE
set_option maxRecDepth 100000
set_option maxHeartbeats 0
set_option linter.all false
namespace Go.Proofs.YtnjiinbhbjpfkaaGreatDoor
open Go.RowKit Go.Proofs.Tryz
section
theorem Ih(x y:Int)(w:aa):dD 88 #[aj x,aj y] w (aj (B.wrap (x+y))) λw'=>w'=w:=by
 have hw:IntKind.i64.wrap (x+y)=B.wrap (x+y):=by simp[IntKind.wrap,IntKind.bits,IntKind.signed,B.wrap];omega
 delta dD;go_in;go_wp2
 go_ret;simp_all
theorem GQ(x y:Int)(w:aa):dD 90 #[aj x,aj y] w (aj (B.wrap (x*y))) λw'=>w'=w:=by
 have hw:IntKind.i64.wrap (x*y)=B.wrap (x*y):=by
  generalize x*y=z;simp[IntKind.wrap,IntKind.bits,IntKind.signed,B.wrap];omega
 delta dD;go_in;go_wp2
 go_ret;simp_all
def sP(x y:Int):Int:=if x<y then 1 else 0
theorem EA(x y:Int)(w:aa):dD 91 #[aj x,aj y] w (aj (sP x y)) λw'=>w'=w:=by
 have i:∀d:Bool,decide (x<y)=d->dD 91 #[aj x,aj y] w (aj (if d=true then 1 else 0)) λw'=>w'=w:=by
  intro d u;have o:=bj (vP d);generalize hz:(if d=true then(1:Int) else 0)=z at *;delta dD;go_in;go_wp2_with fail
  refine du (o _) ?_;rintro w1 rfl;go_wp2
  go_ret;exact⟨rfl,rfl⟩
 grind[decide,sP]
theorem FK(op a b c fb tb eb cb L nx rb nr vb:Nat)(back:Value)(R:Nat->B.V)(ha:a<nr)(hb:b<nr)(hc:c<nr)(w:aa)(hF:Fr w fb cb L nx rb nr back R)(hv:w.heap[vb]? = some (.cells #[Fv 88 #[]] 190 (0,0))): Calls prog 151 #[ed op a b c fb tb eb,P0 vb] w λe w'=>(((R b).1=0/\(R c).1=0)/\e=.returned (aj 0)/\w.grownBy w' (some rb)/\Fr w' fb cb L nx rb nr back (B.set R a (0,B.wrap ((R b).2+(R c).2))))\/(¬((R b).1=0/\(R c).1=0)/\e=.returned (aj 1)/\w.grownBy w' none):=by
 have u:=bj hF;have HV:=bj hv;clear hF hv;go_in;go_wp2_with fail
 have aA:=bj (iN w op a b c fb tb eb);have H:=bj (ak w (.cells #[dy op,dy a,dy b,dy c,P0 fb,P0 tb,P0 eb] 186) none);refine du (rz op a b c fb tb eb cb L nx rb nr back R _ (u.kept H).1 (u.kept H).2.1 hb) λw1 a0=>?_;have a7:=bj (ar H a0);have a8:=bj (dv a0 aA);clear a0 aA H;go_wp2_with fail
 refine du (gk (R b) _) λw2 a2=>?_;have o:=bj (ar a7 a2);have G:=bj (dv a2 a8);clear a2 a8 a7;obtain⟨x0,x1,x2,x3,x4,x5,x6⟩:=eZ G;go_wp2_with fail
 refine du (sX op a b c fb tb eb cb L nx rb nr back R w2 (u.kept o).1 (u.kept o).2.1 hc) λw3 a1=>?_;have a4:=bj (ar o a1);have aB:=bj (dv a1 G);clear a1 G o x0 x1 x2 x3 x4 x5 x6;go_wp2_with fail
 refine du (gk (R c) _) λw4 Y=>?_;have i:=bj (ar a4 Y);have a5:=bj (dv Y aB);clear Y aB a4;obtain⟨x0,x1,x2,x3,x4,x5,x6⟩:=eZ a5;have lx:=ch a5;have Z:=dv i HV;have v5:w4.cell? (ay vb 0)=some (Fv 88 #[]):=fy Z
 clear Z;by_cases W:(R b).1=0
 .by_cases h2:(R c).1=0
  .have J:decide ((R b).1=0)=true:=gG W;have d2:decide ((R c).1=0)=true:=gG h2;simp only[J,d2];have HP:=bj (bh W h2);clear W h2 J d2;generalize a3:B.wrap ((R b).2+(R c).2)=y;have hs:=Ih (R b).2 (R c).2;rw[a3]at hs;have HS:=bj hs;have aC:=bj a3;clear hs a3;go_wp2_with fail
   go_region_with (first|(go_at_call 88;refine du (HS _) ?_;rintro w5 rfl)|(go_at_call 61;refine du (fG y _) ?_;rintro w6 rfl)|(go_at_call 149;refine du (kH op a b c fb tb eb cb L nx rb nr back R (0,y) _ (u.kept (by repeat (first|exact i|refine bo ?_|refine ax ?_ _))).1 (u.kept (by repeat (first|exact i|refine bo ?_|refine ax ?_ _))).2.1 ha) ?_;rintro w7 ⟨a9,a6⟩))
   all_goals
    have hg:w.grownBy w7 (some rb):=ar (by repeat (first|exact eT i|refine bo ?_|refine ax ?_ _)) a9;have HH:=bj (bh hg (bh (da hg u.1 (by intro e;injection e with e;exact u.2.2 e)) a6));clear hg a9 a6;go_wp2_with fail
    go_ret;exact af ⟨HP,rfl,HH.1,HH.2.1,eV aC.out HH.2.2,u.2.2⟩
  have J:decide ((R b).1=0)=true:=gG W;have d2:decide ((R c).1=0)=false:=gG h2;simp only[J,d2];have HP:=bj (show ¬((R b).1=0/\(R c).1=0) from λh=>h2 h.2);clear W h2 J d2;go_wp2_with fail
  go_ret;exact ah ⟨HP,rfl,i⟩
 have J:decide ((R b).1=0)=false:=gG W;simp only[J];have HP:=bj (show ¬((R b).1=0/\(R c).1=0) from λh=>W h.1);clear W J;go_wp2_with fail
 go_ret;exact ah ⟨HP,rfl,i⟩
theorem FI(op a b c fb tb eb cb L nx rb nr vb:Nat)(back:Value)(R:Nat->B.V)(ha:a<nr)(hb:b<nr)(hc:c<nr)(w:aa)(hF:Fr w fb cb L nx rb nr back R)(hv:w.heap[vb]? = some (.cells #[Fv 90 #[]] 190 (0,0))): Calls prog 151 #[ed op a b c fb tb eb,P0 vb] w λe w'=>(((R b).1=0/\(R c).1=0)/\e=.returned (aj 0)/\w.grownBy w' (some rb)/\Fr w' fb cb L nx rb nr back (B.set R a (0,B.wrap ((R b).2*(R c).2))))\/(¬((R b).1=0/\(R c).1=0)/\e=.returned (aj 1)/\w.grownBy w' none):=by
 have u:=bj hF;have HV:=bj hv;clear hF hv;go_in;go_wp2_with fail
 have aA:=bj (iN w op a b c fb tb eb);have H:=bj (ak w (.cells #[dy op,dy a,dy b,dy c,P0 fb,P0 tb,P0 eb] 186) none);refine du (rz op a b c fb tb eb cb L nx rb nr back R _ (u.kept H).1 (u.kept H).2.1 hb) λw1 a0=>?_;have a7:=bj (ar H a0);have a8:=bj (dv a0 aA);clear a0 aA H;go_wp2_with fail
 refine du (gk (R b) _) λw2 a2=>?_;have o:=bj (ar a7 a2);have G:=bj (dv a2 a8);clear a2 a8 a7;obtain⟨x0,x1,x2,x3,x4,x5,x6⟩:=eZ G;go_wp2_with fail
 refine du (sX op a b c fb tb eb cb L nx rb nr back R w2 (u.kept o).1 (u.kept o).2.1 hc) λw3 a1=>?_;have a4:=bj (ar o a1);have aB:=bj (dv a1 G);clear a1 G o x0 x1 x2 x3 x4 x5 x6;go_wp2_with fail
 refine du (gk (R c) _) λw4 Y=>?_;have i:=bj (ar a4 Y);have a5:=bj (dv Y aB);clear Y aB a4;obtain⟨x0,x1,x2,x3,x4,x5,x6⟩:=eZ a5;have lx:=ch a5;have Z:=dv i HV;have v5:w4.cell? (ay vb 0)=some (Fv 90 #[]):=fy Z
 clear Z;by_cases W:(R b).1=0
 .by_cases h2:(R c).1=0
  .have J:decide ((R b).1=0)=true:=gG W;have d2:decide ((R c).1=0)=true:=gG h2;simp only[J,d2];have HP:=bj (bh W h2);clear W h2 J d2;generalize a3:B.wrap ((R b).2*(R c).2)=y;have hs:=GQ (R b).2 (R c).2;rw[a3]at hs;have HS:=bj hs;have aC:=bj a3;clear hs a3;go_wp2_with fail
   go_region_with (first|(go_at_call 90;refine du (HS _) ?_;rintro w5 rfl)|(go_at_call 61;refine du (fG y _) ?_;rintro w6 rfl)|(go_at_call 149;refine du (kH op a b c fb tb eb cb L nx rb nr back R (0,y) _ (u.kept (by repeat (first|exact i|refine bo ?_|refine ax ?_ _))).1 (u.kept (by repeat (first|exact i|refine bo ?_|refine ax ?_ _))).2.1 ha) ?_;rintro w7 ⟨a9,a6⟩))
   all_goals
    have hg:w.grownBy w7 (some rb):=ar (by repeat (first|exact eT i|refine bo ?_|refine ax ?_ _)) a9;have HH:=bj (bh hg (bh (da hg u.1 (by intro e;injection e with e;exact u.2.2 e)) a6));clear hg a9 a6;go_wp2_with fail
    go_ret;exact af ⟨HP,rfl,HH.1,HH.2.1,eV aC.out HH.2.2,u.2.2⟩
  have J:decide ((R b).1=0)=true:=gG W;have d2:decide ((R c).1=0)=false:=gG h2;simp only[J,d2];have HP:=bj (show ¬((R b).1=0/\(R c).1=0) from λh=>h2 h.2);clear W h2 J d2;go_wp2_with fail
  go_ret;exact ah ⟨HP,rfl,i⟩
 have J:decide ((R b).1=0)=false:=gG W;simp only[J];have HP:=bj (show ¬((R b).1=0/\(R c).1=0) from λh=>W h.1);clear W J;go_wp2_with fail
 go_ret;exact ah ⟨HP,rfl,i⟩
theorem FH(op a b c fb tb eb cb L nx rb nr vb:Nat)(back:Value)(R:Nat->B.V)(ha:a<nr)(hb:b<nr)(hc:c<nr)(w:aa)(hF:Fr w fb cb L nx rb nr back R)(hv:w.heap[vb]? = some (.cells #[Fv 91 #[]] 190 (0,0))): Calls prog 151 #[ed op a b c fb tb eb,P0 vb] w λe w'=>(((R b).1=0/\(R c).1=0)/\e=.returned (aj 0)/\w.grownBy w' (some rb)/\Fr w' fb cb L nx rb nr back (B.set R a (0,sP (R b).2 (R c).2)))\/(¬((R b).1=0/\(R c).1=0)/\e=.returned (aj 1)/\w.grownBy w' none):=by
 have u:=bj hF;have HV:=bj hv;clear hF hv;go_in;go_wp2_with fail
 have aA:=bj (iN w op a b c fb tb eb);have H:=bj (ak w (.cells #[dy op,dy a,dy b,dy c,P0 fb,P0 tb,P0 eb] 186) none);refine du (rz op a b c fb tb eb cb L nx rb nr back R _ (u.kept H).1 (u.kept H).2.1 hb) λw1 a0=>?_;have a7:=bj (ar H a0);have a8:=bj (dv a0 aA);clear a0 aA H;go_wp2_with fail
 refine du (gk (R b) _) λw2 a2=>?_;have o:=bj (ar a7 a2);have G:=bj (dv a2 a8);clear a2 a8 a7;obtain⟨x0,x1,x2,x3,x4,x5,x6⟩:=eZ G;go_wp2_with fail
 refine du (sX op a b c fb tb eb cb L nx rb nr back R w2 (u.kept o).1 (u.kept o).2.1 hc) λw3 a1=>?_;have a4:=bj (ar o a1);have aB:=bj (dv a1 G);clear a1 G o x0 x1 x2 x3 x4 x5 x6;go_wp2_with fail
 refine du (gk (R c) _) λw4 Y=>?_;have i:=bj (ar a4 Y);have a5:=bj (dv Y aB);clear Y aB a4;obtain⟨x0,x1,x2,x3,x4,x5,x6⟩:=eZ a5;have lx:=ch a5;have Z:=dv i HV;have v5:w4.cell? (ay vb 0)=some (Fv 91 #[]):=fy Z
 clear Z;by_cases W:(R b).1=0
 .by_cases h2:(R c).1=0
  .have J:decide ((R b).1=0)=true:=gG W;have d2:decide ((R c).1=0)=true:=gG h2;simp only[J,d2];have HP:=bj (bh W h2);clear W h2 J d2;generalize a3:sP (R b).2 (R c).2=y;have hs:=EA (R b).2 (R c).2;rw[a3]at hs;have HS:=bj hs;have aC:=bj a3;clear hs a3;go_wp2_with fail
   go_region_with (first|(go_at_call 91;refine du (HS _) ?_;rintro w5 rfl)|(go_at_call 61;refine du (fG y _) ?_;rintro w6 rfl)|(go_at_call 149;refine du (kH op a b c fb tb eb cb L nx rb nr back R (0,y) _ (u.kept (by repeat (first|exact i|refine bo ?_|refine ax ?_ _))).1 (u.kept (by repeat (first|exact i|refine bo ?_|refine ax ?_ _))).2.1 ha) ?_;rintro w7 ⟨a9,a6⟩))
   all_goals
    have hg:w.grownBy w7 (some rb):=ar (by repeat (first|exact eT i|refine bo ?_|refine ax ?_ _)) a9;have HH:=bj (bh hg (bh (da hg u.1 (by intro e;injection e with e;exact u.2.2 e)) a6));clear hg a9 a6;go_wp2_with fail
    go_ret;exact af ⟨HP,rfl,HH.1,HH.2.1,eV aC.out HH.2.2,u.2.2⟩
  have J:decide ((R b).1=0)=true:=gG W;have d2:decide ((R c).1=0)=false:=gG h2;simp only[J,d2];have HP:=bj (show ¬((R b).1=0/\(R c).1=0) from λh=>h2 h.2);clear W h2 J d2;go_wp2_with fail
  go_ret;exact ah ⟨HP,rfl,i⟩
 have J:decide ((R b).1=0)=false:=gG W;simp only[J];have HP:=bj (show ¬((R b).1=0/\(R c).1=0) from λh=>W h.1);clear W J;go_wp2_with fail
 go_ret;exact ah ⟨HP,rfl,i⟩
