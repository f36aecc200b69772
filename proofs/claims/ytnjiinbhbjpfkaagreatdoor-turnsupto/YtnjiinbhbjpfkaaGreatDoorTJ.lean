import Derived.Test.YtnjiinbhbjpfkaaGreatDoorTD
import Derived.Test.YtnjiinbhbjpfkaaGreatDoorTB
set_option maxRecDepth 100000
set_option maxHeartbeats 0
set_option linter.all false
namespace Go.Proofs.YtnjiinbhbjpfkaaGreatDoor
open Go.RowKit Go.Proofs.Tryz
section
def Ih(x y:Int)(w:aa):dD 88 #[aj x,aj y] w (aj (B.wrap (x+y))) λw'=>w'=w:=by
 have hw:IntKind.i64.wrap (x+y)=B.wrap (x+y):=by simp[IntKind.wrap,IntKind.bits,IntKind.signed,B.wrap];omega
 delta dD;go_in;go_wp2
 go_ret;simp_all
def GQ(x y:Int)(w:aa):dD 90 #[aj x,aj y] w (aj (B.wrap (x*y))) λw'=>w'=w:=by
 have hw:IntKind.i64.wrap (x*y)=B.wrap (x*y):=by
  generalize x*y=z;simp[IntKind.wrap,IntKind.bits,IntKind.signed,B.wrap];omega
 delta dD;go_in;go_wp2
 go_ret;simp_all
def sP(x y:Int):Int:=if x<y then 1 else 0
def EA(x y:Int)(w:aa):dD 91 #[aj x,aj y] w (aj (sP x y)) λw'=>w'=w:=by
 have i:∀d:Bool,decide (x<y)=d->dD 91 #[aj x,aj y] w (aj (if d=true then 1 else 0)) λw'=>w'=w:=by
  intro d u;have o:=bj (vP d);generalize hz:(if d=true then(1:Int) else 0)=z at *;delta dD;go_in;go_wp2_with fail
  refine du (o _) ?_;rintro w1 rfl;go_wp2
  go_ret;exact⟨rfl,rfl⟩
 grind[decide,sP]
def FK(op a b c fb tb eb cb L nx rb nr vb:Nat)(back:Value)(R:Nat->B.V)(ha:a<nr)(hb:b<nr)(hc:c<nr)(w:aa)(hF:Fr w fb cb L nx rb nr back R)(hv:w.heap[vb]? = some (.cells #[Fv 88 #[]] 190 (0,0))): Calls prog 151 #[ed op a b c fb tb eb,P0 vb] w λe w'=>(((R b).1=0/\(R c).1=0)/\e=.returned (aj 0)/\w.grownBy w' (some rb)/\Fr w' fb cb L nx rb nr back (B.set R a (0,B.wrap ((R b).2+(R c).2))))\/(¬((R b).1=0/\(R c).1=0)/\e=.returned (aj 1)/\w.grownBy w' none):=by
 have u:=bj hF;have HV:=bj hv;clear hF hv;go_in;go_wp2_with fail
 have aA:=bj (iN w op a b c fb tb eb);have H:=bj (ak w (.cells #[dy op,dy a,dy b,dy c,P0 fb,P0 tb,P0 eb] 186) none);refine du (rz op a b c fb tb eb cb L nx rb nr back R _ (u.kept H).1 (u.kept H).2.1 hb) λw1 a0=>?_;have a7:=bj (ar H a0);have a8:=bj (dv a0 aA);clear a0 aA H;go_wp2_with fail
 refine du (gk (R b) _) λw2 a2=>?_;have o:=bj (ar a7 a2);have G:=bj (dv a2 a8);clear a2 a8 a7;obtain⟨x0,x1,x2,x3,x4,x5,x6⟩:=eZ G;go_wp2_with fail
 refine du (sX op a b c fb tb eb cb L nx rb nr back R w2 (u.kept o).1 (u.kept o).2.1 hc) λw3 a1=>?_;have a4:=bj (ar o a1);have aB:=bj (dv a1 G);clear a1 G o x0 x1 x2 x3 x4 x5 x6;go_wp2_with fail
 refine du (gk (R c) _) λw4 Y=>?_;have i:=bj (ar a4 Y);have a5:=bj (dv Y aB);clear Y aB a4;obtain⟨x0,x1,x2,x3,x4,x5,x6⟩:=eZ a5;have lx:=ch a5;have Z:=dv i HV;have v5:w4.cell? (ay vb 0)=some (Fv 88 #[]):=fy Z
 clear Z;by_cases W:(R b).1=0
 .by_cases h2:(R c).1=0
  .have J:decide ((R b).1=0)=true:=gG W;have d2:decide ((R c).1=0)=true:=gG h2;simp only[J,d2];have HP:=bj (bh W h2);clear W h2 J d2;generalize a3:B.wrap ((R b).2+(R c).2)=y;have hs:=Ih (R b).2 (R c).2;rw[a3]at hs;have HS:=bj hs;have aC:=bj a3;clear hs a3;go_wp2_with fail
   go_region_with (first|(go_at_call 88;refine du (HS _) ?_;rintro w5 rfl)|(go_at_call 61;refine du (fG y _) ?_;rintro w6 rfl)|(go_at_call 149;refine du (kH op a b c fb tb eb cb L nx rb nr back R (0,y) _ (u.kept (by repeat (first|exact i|refine bo ?_|refine ax ?_ _))).1 (u.kept (by repeat (first|exact i|refine bo ?_|refine ax ?_ _))).2.1 ha) ?_;rintro w7 ⟨a9,a6⟩))
   all_goals
    have hg:w.grownBy w7 (some rb):=ar (by repeat (first|exact eT i|refine bo ?_|refine ax ?_ _)) a9;have HH:=bj (bh hg (bh (da hg u.1 (by intro e;injection e with e;exact u.2.2 e)) a6));clear hg a9 a6;go_wp2_with fail
    go_ret;exact af ⟨HP,rfl,HH.1,HH.2.1,eV aC.out HH.2.2,u.2.2⟩
  have J:decide ((R b).1=0)=true:=gG W;have d2:decide ((R c).1=0)=false:=gG h2;simp only[J,d2];have HP:=bj (show ¬((R b).1=0/\(R c).1=0) from λh=>h2 h.2);clear W h2 J d2;go_wp2_with fail
  go_ret;exact ah ⟨HP,rfl,i⟩
 have J:decide ((R b).1=0)=false:=gG W;simp only[J];have HP:=bj (show ¬((R b).1=0/\(R c).1=0) from λh=>W h.1);clear W J;go_wp2_with fail
 go_ret;exact ah ⟨HP,rfl,i⟩
def FI(op a b c fb tb eb cb L nx rb nr vb:Nat)(back:Value)(R:Nat->B.V)(ha:a<nr)(hb:b<nr)(hc:c<nr)(w:aa)(hF:Fr w fb cb L nx rb nr back R)(hv:w.heap[vb]? = some (.cells #[Fv 90 #[]] 190 (0,0))): Calls prog 151 #[ed op a b c fb tb eb,P0 vb] w λe w'=>(((R b).1=0/\(R c).1=0)/\e=.returned (aj 0)/\w.grownBy w' (some rb)/\Fr w' fb cb L nx rb nr back (B.set R a (0,B.wrap ((R b).2*(R c).2))))\/(¬((R b).1=0/\(R c).1=0)/\e=.returned (aj 1)/\w.grownBy w' none):=by
 have u:=bj hF;have HV:=bj hv;clear hF hv;go_in;go_wp2_with fail
 have aA:=bj (iN w op a b c fb tb eb);have H:=bj (ak w (.cells #[dy op,dy a,dy b,dy c,P0 fb,P0 tb,P0 eb] 186) none);refine du (rz op a b c fb tb eb cb L nx rb nr back R _ (u.kept H).1 (u.kept H).2.1 hb) λw1 a0=>?_;have a7:=bj (ar H a0);have a8:=bj (dv a0 aA);clear a0 aA H;go_wp2_with fail
 refine du (gk (R b) _) λw2 a2=>?_;have o:=bj (ar a7 a2);have G:=bj (dv a2 a8);clear a2 a8 a7;obtain⟨x0,x1,x2,x3,x4,x5,x6⟩:=eZ G;go_wp2_with fail
 refine du (sX op a b c fb tb eb cb L nx rb nr back R w2 (u.kept o).1 (u.kept o).2.1 hc) λw3 a1=>?_;have a4:=bj (ar o a1);have aB:=bj (dv a1 G);clear a1 G o x0 x1 x2 x3 x4 x5 x6;go_wp2_with fail
 refine du (gk (R c) _) λw4 Y=>?_;have i:=bj (ar a4 Y);have a5:=bj (dv Y aB);clear Y aB a4;obtain⟨x0,x1,x2,x3,x4,x5,x6⟩:=eZ a5;have lx:=ch a5;have Z:=dv i HV;have v5:w4.cell? (ay vb 0)=some (Fv 90 #[]):=fy Z
 clear Z;by_cases W:(R b).1=0
 .by_cases h2:(R c).1=0
  .have J:decide ((R b).1=0)=true:=gG W;have d2:decide ((R c).1=0)=true:=gG h2;simp only[J,d2];have HP:=bj (bh W h2);clear W h2 J d2;generalize a3:B.wrap ((R b).2*(R c).2)=y;have hs:=GQ (R b).2 (R c).2;rw[a3]at hs;have HS:=bj hs;have aC:=bj a3;clear hs a3;go_wp2_with fail
   go_region_with (first|(go_at_call 90;refine du (HS _) ?_;rintro w5 rfl)|(go_at_call 61;refine du (fG y _) ?_;rintro w6 rfl)|(go_at_call 149;refine du (kH op a b c fb tb eb cb L nx rb nr back R (0,y) _ (u.kept (by repeat (first|exact i|refine bo ?_|refine ax ?_ _))).1 (u.kept (by repeat (first|exact i|refine bo ?_|refine ax ?_ _))).2.1 ha) ?_;rintro w7 ⟨a9,a6⟩))
   all_goals
    have hg:w.grownBy w7 (some rb):=ar (by repeat (first|exact eT i|refine bo ?_|refine ax ?_ _)) a9;have HH:=bj (bh hg (bh (da hg u.1 (by intro e;injection e with e;exact u.2.2 e)) a6));clear hg a9 a6;go_wp2_with fail
    go_ret;exact af ⟨HP,rfl,HH.1,HH.2.1,eV aC.out HH.2.2,u.2.2⟩
  have J:decide ((R b).1=0)=true:=gG W;have d2:decide ((R c).1=0)=false:=gG h2;simp only[J,d2];have HP:=bj (show ¬((R b).1=0/\(R c).1=0) from λh=>h2 h.2);clear W h2 J d2;go_wp2_with fail
  go_ret;exact ah ⟨HP,rfl,i⟩
 have J:decide ((R b).1=0)=false:=gG W;simp only[J];have HP:=bj (show ¬((R b).1=0/\(R c).1=0) from λh=>W h.1);clear W J;go_wp2_with fail
 go_ret;exact ah ⟨HP,rfl,i⟩
def FH(op a b c fb tb eb cb L nx rb nr vb:Nat)(back:Value)(R:Nat->B.V)(ha:a<nr)(hb:b<nr)(hc:c<nr)(w:aa)(hF:Fr w fb cb L nx rb nr back R)(hv:w.heap[vb]? = some (.cells #[Fv 91 #[]] 190 (0,0))): Calls prog 151 #[ed op a b c fb tb eb,P0 vb] w λe w'=>(((R b).1=0/\(R c).1=0)/\e=.returned (aj 0)/\w.grownBy w' (some rb)/\Fr w' fb cb L nx rb nr back (B.set R a (0,sP (R b).2 (R c).2)))\/(¬((R b).1=0/\(R c).1=0)/\e=.returned (aj 1)/\w.grownBy w' none):=by
 have u:=bj hF;have HV:=bj hv;clear hF hv;go_in;go_wp2_with fail
 have aA:=bj (iN w op a b c fb tb eb);have H:=bj (ak w (.cells #[dy op,dy a,dy b,dy c,P0 fb,P0 tb,P0 eb] 186) none);refine du (rz op a b c fb tb eb cb L nx rb nr back R _ (u.kept H).1 (u.kept H).2.1 hb) λw1 a0=>?_;have a7:=bj (ar H a0);have a8:=bj (dv a0 aA);clear a0 aA H;go_wp2_with fail
 refine du (gk (R b) _) λw2 a2=>?_;have o:=bj (ar a7 a2);have G:=bj (dv a2 a8);clear a2 a8 a7;obtain⟨x0,x1,x2,x3,x4,x5,x6⟩:=eZ G;go_wp2_with fail
 refine du (sX op a b c fb tb eb cb L nx rb nr back R w2 (u.kept o).1 (u.kept o).2.1 hc) λw3 a1=>?_;have a4:=bj (ar o a1);have aB:=bj (dv a1 G);clear a1 G o x0 x1 x2 x3 x4 x5 x6;go_wp2_with fail
 refine du (gk (R c) _) λw4 Y=>?_;have i:=bj (ar a4 Y);have a5:=bj (dv Y aB);clear Y aB a4;obtain⟨x0,x1,x2,x3,x4,x5,x6⟩:=eZ a5;have lx:=ch a5;have Z:=dv i HV;have v5:w4.cell? (ay vb 0)=some (Fv 91 #[]):=fy Z
 clear Z;by_cases W:(R b).1=0
 .by_cases h2:(R c).1=0
  .have J:decide ((R b).1=0)=true:=gG W;have d2:decide ((R c).1=0)=true:=gG h2;simp only[J,d2];have HP:=bj (bh W h2);clear W h2 J d2;generalize a3:sP (R b).2 (R c).2=y;have hs:=EA (R b).2 (R c).2;rw[a3]at hs;have HS:=bj hs;have aC:=bj a3;clear hs a3;go_wp2_with fail
   go_region_with (first|(go_at_call 91;refine du (HS _) ?_;rintro w5 rfl)|(go_at_call 61;refine du (fG y _) ?_;rintro w6 rfl)|(go_at_call 149;refine du (kH op a b c fb tb eb cb L nx rb nr back R (0,y) _ (u.kept (by repeat (first|exact i|refine bo ?_|refine ax ?_ _))).1 (u.kept (by repeat (first|exact i|refine bo ?_|refine ax ?_ _))).2.1 ha) ?_;rintro w7 ⟨a9,a6⟩))
   all_goals
    have hg:w.grownBy w7 (some rb):=ar (by repeat (first|exact eT i|refine bo ?_|refine ax ?_ _)) a9;have HH:=bj (bh hg (bh (da hg u.1 (by intro e;injection e with e;exact u.2.2 e)) a6));clear hg a9 a6;go_wp2_with fail
    go_ret;exact af ⟨HP,rfl,HH.1,HH.2.1,eV aC.out HH.2.2,u.2.2⟩
  have J:decide ((R b).1=0)=true:=gG W;have d2:decide ((R c).1=0)=false:=gG h2;simp only[J,d2];have HP:=bj (show ¬((R b).1=0/\(R c).1=0) from λh=>h2 h.2);clear W h2 J d2;go_wp2_with fail
  go_ret;exact ah ⟨HP,rfl,i⟩
 have J:decide ((R b).1=0)=false:=gG W;simp only[J];have HP:=bj (show ¬((R b).1=0/\(R c).1=0) from λh=>W h.1);clear W J;go_wp2_with fail
 go_ret;exact ah ⟨HP,rfl,i⟩
def uc{u H:Nat}(hF:(u=98/\H=112)\/(u=86/\H=113)\/(u=98/\H=114)\/(u=98/\H=115)\/(u=86/\H=116))(op a b c fb tb eb v1 v2:Nat)(y:B.V)(R:Int->aa->Prop)(w:aa)(c1:w.cell? (ay v1 0)=some (Fv u #[]))(c2:w.cell? (ay v2 0)=some (Fv H #[]))(H1:∀w1,w.grownBy w1 none->dD u #[ed op a b c fb tb eb] w1 (vA y) λw'=>w1.grownBy w' none)(H2:y.1=0->∀w1,w.grownBy w1 none->Calls prog H #[ed op a b c fb tb eb,aj y.2] w1 λe w'=>∃why:Int,e=.returned (aj why)/\R why w')(H3:y.1≠0->∀w1,w.grownBy w1 none->R 1 w1): Calls prog 167 #[ed op a b c fb tb eb,P0 v1,P0 v2] w λe w'=>∃why:Int,e=.returned (aj why)/\R why w':=by
 rcases hF with⟨rfl,rfl⟩|⟨rfl,rfl⟩|⟨rfl,rfl⟩|⟨rfl,rfl⟩|⟨rfl,rfl⟩
 all_goals
  change Hid _ at H1 H2 H3;have a8:=gM c1;have Y:=gM c2;go_in;go_wp2_with fail
  have a6:=bj (iN w op a b c fb tb eb);have a0:=bj (ak w (.cells #[dy op,dy a,dy b,dy c,P0 fb,P0 tb,P0 eb] 186) none);generalize hW:w.alloc (.cells #[dy op,dy a,dy b,dy c,P0 fb,P0 tb,P0 eb] 186)=w1 at *;clear hW;refine du (H1 w1 a0) λw2 G=>?_;have a4:=bj (ar a0 G);have a5:=bj (dv G a6);clear G;go_wp2_with fail
  refine du (gk y _) λw3 o=>?_;have i:=bj (ar a4 o);have W:=bj (dv o a5);clear o;by_cases J:y.1=0
  .have hd:decide (y.1=0)=true:=gG J
   simp only[hd];change Hid _ at J;clear hd;obtain⟨x0,x1,x2,x3,x4,x5,x6⟩:=eZ W;have d2:=(bd i (a:=ay v2 0) Y).1.trans c2;go_wp2_with fail
   refine(H2 J w3 i).mono ?_;rintro e w4 ⟨why,rfl,Z⟩;change Hid _ at Z;go_wp2
   go_ret;exact⟨why,rfl,Z⟩
  have hd:decide (y.1=0)=false:=gG J
  simp only[hd];have J:=bj J;clear J hd;go_wp2
  go_ret;exact⟨1,rfl,H3 J w3 i⟩
def Hp(op a b c fb tb eb u:Nat)(R:aa->Prop)(w:aa)(hw:w.cell? (ay u 0)=some (Fv 106 #[]))(H:∀w1,w.grownBy w1 none->eL 106 #[ed op a b c fb tb eb] w1 λw'=>R w'): dD 163 #[ed op a b c fb tb eb,P0 u] w (aj 0) λw'=>R w':=by
 have y:=bj H;have G:=gM hw;delta dD;go_in;go_wp2_with fail
 refine du (y _ (ak _ _ _)) λw2 i=>?_;have o:=bj i;go_wp2
 go_ret;simp_all
def Ho(op a b c fb tb eb u:Nat)(R:aa->Prop)(w:aa)(hw:w.cell? (ay u 0)=some (Fv 109 #[]))(H:∀w1,w.grownBy w1 none->eL 109 #[ed op a b c fb tb eb] w1 λw'=>R w'): dD 163 #[ed op a b c fb tb eb,P0 u] w (aj 0) λw'=>R w':=by
 have y:=bj H;have G:=gM hw;delta dD;go_in;go_wp2_with fail
 refine du (y _ (ak _ _ _)) λw2 i=>?_;have o:=bj i;go_wp2
 go_ret;simp_all
def IV(op a b c fb tb eb:Nat)(R:aa->Prop)(w:aa)(le:eb<w.heap.size)(H:∀w1,w.grownBy w1 none->eL 110 #[Pt eb 32,P0 tb] w1 λw'=>R w'): eL 109 #[ed op a b c fb tb eb] w λw'=>R w':=by
 have W:=bj H;delta eL;go_in;go_wp2_with fail
 have i:=bj (iN w op a b c fb tb eb);have o:=bj (ak w (.cells #[dy op,dy a,dy b,dy c,P0 fb,P0 tb,P0 eb] 186) none);generalize J:w.alloc (.cells #[dy op,dy a,dy b,dy c,P0 fb,P0 tb,P0 eb] 186)=w1 at *;obtain⟨Z,Y,x2,x3,x4,x5,x6⟩:=eZ i;go_region_with (go_at_call 110;refine du (W w1.drew (bo o)) λw2 u=>?_;have y:=bj u;clear u)
 all_goals
  go_wp2
  go_end0;exact⟨rfl,y⟩
def Mm(op a b c fb tb eb:Nat)(x:Int)(R:aa->Prop)(w:aa)(H:∀w1,w.grownBy w1 none->eL 173 #[P0 eb,aj 1,P0 tb,aj x] w1 λw'=>R w'): dD 115 #[ed op a b c fb tb eb,aj x] w (aj 0) λw'=>R w':=by
 have u:=bj H;delta dD;go_in;go_wp2_with fail
 refine du (u _ (ak _ _ _)) λw2 i=>?_;have o:=bj i;go_wp2
 go_ret;simp_all
def Gh(op a b c fb tb eb:Nat)(x:Int)(R:aa->Prop)(w:aa)(H:∀w1,w.grownBy w1 none->eL 168 #[P0 eb,P0 tb,aj x] w1 λw'=>R w'): dD 112 #[ed op a b c fb tb eb,aj x] w (aj 0) λw'=>R w':=by
 have u:=bj H;delta dD;go_in;go_wp2_with fail
 refine du (u _ (ak _ _ _)) λw2 i=>?_;have o:=bj i;go_wp2
 go_ret;simp_all
def Nc(op a b c fb tb eb:Nat)(y:B.V)(R:aa->Prop)(w:aa)(H1:∀w1,w.grownBy w1 none->dD 98 #[ed op a b c fb tb eb] w1 (vA y) λw'=>w1.grownBy w' none)(H:∀w1,w.grownBy w1 none->eL 107 #[P0 tb,vA y] w1 λw'=>R w'/\∀k,w.heap.size<=k->k<w1.heap.size->w'.heap[k]? = w1.heap[k]?): eL 106 #[ed op a b c fb tb eb] w λw'=>R w':=by
 have Y:=bj H1;have HH:=bj H;delta eL;go_in;go_wp2_with fail
 have u:=bj (iN w op a b c fb tb eb);have J:=bj (ak w (.cells #[dy op,dy a,dy b,dy c,P0 fb,P0 tb,P0 eb] 186) none);generalize hW:w.alloc (.cells #[dy op,dy a,dy b,dy c,P0 fb,P0 tb,P0 eb] 186)=w1 at *;go_region_held3 (λw'=>dS w' w.heap.size 0=some (dy op)/\dS w' w.heap.size 1=some (dy a)/\dS w' w.heap.size 2=some (dy b)/\dS w' w.heap.size 3=some (dy c)/\dS w' w.heap.size 4=some (P0 fb)/\dS w' w.heap.size 5=some (P0 tb)/\dS w' w.heap.size 6=some (P0 eb)) (first|exact eZ u|exact eZ i|exact eZ Z) (first|(go_at_call 98;refine du (Y w1.drew (bo J)) λw2 o=>?_;have a0:Hid (w.grownBy w2 none):=ar (bo J) o;have i:=bj (dv o (show w1.drew.heap[w.heap.size]? = _ from u));clear o)|(go_at_call 107;refine du (HH w2 a0) ?_;rintro w3 ⟨W,G⟩;have a1:=bj W;have Z:=bj ((G w.heap.size (bq _) (ch i)).trans i);clear W G))
 all_goals
  go_wp2
  go_end0;exact⟨rfl,a1⟩
def yY(op a b c fb tb eb cb L nx rb nr vb:Nat)(back:Value)(R:Nat->B.V)(y:B.V)(W:a<nr)(w:aa)(J:Fr w fb cb L nx rb nr back R)(hv:w.cell? (ay vb 0)=some (Fv 86 #[]))(Y:vb<w.heap.size)(hn:Hid (∀w',w.grownBy w' none->dD 86 #[ed op a b c fb tb eb] w' (vA y) λw''=>w'.grownBy w'' none)): eL 148 #[ed op a b c fb tb eb,P0 vb] w λw'=>w.grownBy w' (some rb)/\Fr w' fb cb L nx rb nr back (B.set R a y):=by
 have G:=bj J;clear J;delta eL;go_in;go_wp2_with fail
 go_region_with (first|(go_at_call 86;refine du (hn.out _ (by repeat (first|exact aw _ _|refine bo ?_|refine ax ?_ _))) λw1 o=>?_;obtain⟨s0,s1,Z,s3,s4,s5,s6,s7⟩:=Hz o;have i:Hid (w.grownBy w1 none):=ar (by repeat (first|exact aw _ _|refine bo ?_|refine ax ?_ _)) o;clear o)|(go_at_call 149;refine du (kH op a b c fb tb eb cb L nx rb nr back R y w1 (G.out.kept i.out).1 (G.out.kept i.out).2.1 W) ?_;rintro w2 ⟨u,H⟩))
 all_goals
  go_wp2_with fail
  go_end0;refine⟨rfl,ar (eT i.out) u,da u (G.out.kept i.out).1 (by intro e;injection e with e;exact G.out.2.2 e),H,G.out.2.2⟩
def Az(op a b c fb tb eb cb L nx rb nr G vb:Nat)(back:Value)(R:Nat->B.V)(y:B.V)(ha:a<nr)(w:aa)(W:Fr w fb cb L nx rb nr back R)(hw:w.cell? (ay G 0)=some (Fv 148 #[P0 vb]))(hv:w.cell? (ay vb 0)=some (Fv 86 #[]))(Z:G<w.heap.size)(H:vb<w.heap.size)(hn:Hid (∀w',w.grownBy w' none->dD 86 #[ed op a b c fb tb eb] w' (vA y) λw''=>w'.grownBy w'' none)): dD 163 #[ed op a b c fb tb eb,P0 G] w (aj 0) λw'=>w.grownBy w' (some rb)/\Fr w' fb cb L nx rb nr back (B.set R a y):=by
 have KF:Hid (Fr w fb cb L nx rb nr back R):=W;delta dD;go_in;go_wp2_with fail
 refine du (yY op a b c fb tb eb cb L nx rb nr vb back R y ha _ (KF.kept (ak _ _ _)) (by simp[go_sem,H,hv]) fH (λw' Y=>hn w' (ar (ak _ _ _) Y))) ?_;rintro w1 ⟨i,o⟩;have u:=bj o;have J:Hid (w.grownBy w1 (some rb)):=ar (ak _ _ _) i;go_wp2
 go_ret;exact⟨rfl,J,u⟩
def Cv(op a b c fb tb eb vbx : Nat) (S : Int → Bool → aa → Prop) (R : aa → Prop) (w : aa) (hv : w.cell? ⟨vbx, 0, none⟩ = some (Fv 100 #[]))
    (H1 : ∀ w1, w.grownBy w1 none → w1.heap[w.heap.size]? = some (ju op a b c fb tb eb) → Calls prog 100 #[ed op a b c fb tb eb] w1 fun e w2 => ∃ (x : Int) (o : Bool), e = .returned (.tuple #[.agg #[aj x, aj 0], .bool o]) ∧ S x o w2 ∧ w2.heap[w.heap.size]? = some (ju op a b c fb tb eb))
    (H2 : ∀ x w2 w3, S x true w2 → w2.grownBy w3 none → Calls prog 149 #[ed op a b c fb tb eb, .agg #[aj x, aj 0]] w3 fun e w' => e = .returned (.tuple #[]) ∧ R w')
    (H3 : ∀ x w2 w3, S x false w2 → w2.grownBy w3 none → Calls prog 156 #[P0 eb, P0 tb] w3 fun e w' => e = .returned (.tuple #[]) ∧ R w') :
    Calls prog 155 #[ed op a b c fb tb eb, P0 vbx] w fun e w' => e = .returned (.tuple #[]) ∧ R w' := by
  have HH1 := bj H1
  have HH2 := bj H2
  have HH3 := bj H3
  have lv := gM hv
  go_in
  go_wp2_with fail
  have KG1 := bj (ak w (.cells #[dy (op : Int), dy (a : Int), dy (b : Int), dy (c : Int), P0 fb, P0 tb, P0 eb] 186) none)
  have HX1 := bj (iN w op a b c fb tb eb)
  generalize hW : w.alloc (.cells #[dy (op : Int), dy (a : Int), dy (b : Int), dy (c : Int), P0 fb, P0 tb, P0 eb] 186) = w1 at *
  refine (HH1 w1 KG1 HX1).mono ?_
  rintro e w2 ⟨x, o, rfl, hS2, hX2⟩
  have HS2 := bj hS2
  have HX2 := bj hX2
  obtain⟨x0, x1, x2, x3, x4, x5, x6⟩ := eZ HX2
  have lx := ch HX2
  cases o with
  | true =>
    go_wp2_with fail
    refine du (HH2 x w2 _ HS2 (ak _ _ _)) ?_;rintro w3  hR3
    have HR3 := bj hR3
    go_wp2
    go_end0
    exact⟨rfl, HR3⟩
  | false =>
    go_wp2_with fail
    first
      | (refine du (HH3 x w2 _ HS2 (ak _ _ _)) ?_;rintro w3  hR3
         have HR3 := bj hR3
         go_wp2
         go_end0
         exact⟨rfl, HR3⟩)
      | trace_state
def wu(op a b c fb tb eb vbx wb : Nat) (R : aa → Prop) (w : aa) (hw : w.cell? ⟨wb, 0, none⟩ = some (Fv 155 #[P0 vbx]))
    (H : ∀ w1, w.grownBy w1 none → Calls prog 155 #[ed op a b c fb tb eb, P0 vbx] w1 fun e w' => e = .returned (.tuple #[]) ∧ R w') :
    Calls prog 163 #[ed op a b c fb tb eb, P0 wb] w fun e w' => e = .returned (aj 0) ∧ R w' := by
  have HH := bj H
  have lw := gM hw
  go_in
  go_wp2_with fail
  first
    | (refine du (HH _ (ak _ _ _)) ?_;rintro w2  hR2
       have HR2 := bj hR2
       go_wp2
       go_ret
       simp_all)
    | trace_state
def Cu(op a b c fb tb eb vbx : Nat) (S : Int → Bool → aa → Prop) (R : aa → Prop) (w : aa) (hv : w.cell? ⟨vbx, 0, none⟩ = some (Fv 103 #[]))
    (H1 : ∀ w1, w.grownBy w1 none → w1.heap[w.heap.size]? = some (ju op a b c fb tb eb) → Calls prog 103 #[ed op a b c fb tb eb] w1 fun e w2 => ∃ (x : Int) (o : Bool), e = .returned (.tuple #[.agg #[aj x, aj 0], .bool o]) ∧ S x o w2 ∧ w2.heap[w.heap.size]? = some (ju op a b c fb tb eb))
    (H2 : ∀ x w2 w3, S x true w2 → w2.grownBy w3 none → Calls prog 149 #[ed op a b c fb tb eb, .agg #[aj x, aj 0]] w3 fun e w' => e = .returned (.tuple #[]) ∧ R w')
    (H3 : ∀ x w2 w3, S x false w2 → w2.grownBy w3 none → Calls prog 156 #[P0 eb, P0 tb] w3 fun e w' => e = .returned (.tuple #[]) ∧ R w') :
    Calls prog 155 #[ed op a b c fb tb eb, P0 vbx] w fun e w' => e = .returned (.tuple #[]) ∧ R w' := by
  have HH1 := bj H1
  have HH2 := bj H2
  have HH3 := bj H3
  have lv := gM hv
  go_in
  go_wp2_with fail
  have KG1 := bj (ak w (.cells #[dy (op : Int), dy (a : Int), dy (b : Int), dy (c : Int), P0 fb, P0 tb, P0 eb] 186) none)
  have HX1 := bj (iN w op a b c fb tb eb)
  generalize hW : w.alloc (.cells #[dy (op : Int), dy (a : Int), dy (b : Int), dy (c : Int), P0 fb, P0 tb, P0 eb] 186) = w1 at *
  refine (HH1 w1 KG1 HX1).mono ?_
  rintro e w2 ⟨x, o, rfl, hS2, hX2⟩
  have HS2 := bj hS2
  have HX2 := bj hX2
  obtain⟨x0, x1, x2, x3, x4, x5, x6⟩ := eZ HX2
  have lx := ch HX2
  cases o with
  | true =>
    go_wp2_with fail
    refine du (HH2 x w2 _ HS2 (ak _ _ _)) ?_;rintro w3  hR3
    have HR3 := bj hR3
    go_wp2
    go_end0
    exact⟨rfl, HR3⟩
  | false =>
    go_wp2_with fail
    first
      | (refine du (HH3 x w2 _ HS2 (ak _ _ _)) ?_;rintro w3  hR3
         have HR3 := bj hR3
         go_wp2
         go_end0
         exact⟨rfl, HR3⟩)
      | trace_state
