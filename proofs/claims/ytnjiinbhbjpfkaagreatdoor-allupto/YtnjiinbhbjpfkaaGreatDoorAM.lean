import Derived.Test.YtnjiinbhbjpfkaaGreatDoorAF
set_option maxRecDepth 100000
set_option maxHeartbeats 0
set_option linter.all false
namespace Go.Proofs.YtnjiinbhbjpfkaaGreatDoor
open Go.RowKit Go.Proofs.Tryz
section
theorem Jd(x y:Int)(w:aa):dC 88 #[ah x,ah y] w (ah<|B.wrap<|x+y) λw'=>w'=w:=by
 have hw:IntKind.i64.wrap (x+y)=B.wrap (x+y):=by simp[IntKind.wrap,IntKind.bits,IntKind.signed,B.wrap];omega
 delta dC;go_in;go_wp2
 go_ret;simp_all
theorem Io(x y:Int)(w:aa):dC 90 #[ah x,ah y] w (ah<|B.wrap<|x*y) λw'=>w'=w:=by
 have hw:IntKind.i64.wrap (x*y)=B.wrap (x*y):=by
  generalize x*y=z;simp[IntKind.wrap,IntKind.bits,IntKind.signed,B.wrap];omega
 delta dC;go_in;go_wp2
 go_ret;simp_all
def tJ(x y:Int):Int:=if x<y then 1 else 0
theorem Fu(x y:Int)(w:aa):dC 91 #[ah x,ah y] w (ah<|tJ x y) λw'=>w'=w:=by
 have i:∀d:Bool,decide (x<y)=d->dC 91 #[ah x,ah y] w (ah (if d=true then 1 else 0)) λw'=>w'=w:=by
  intro d u;have o:=bj<|wL d;generalize hz:(if d=true then(1:Int) else 0)=z at*;delta dC;go_in;go_wp2_with fail
  refine dq (o _) ?_;rintro w1 rfl;go_wp2
  go_ret;exact⟨rfl,rfl⟩
 grind[decide,tJ]
theorem GK(op a b c fb tb eb cb L nx rb nr vb:Nat)(back:Value)(R:Nat->B.V)(ha:a<nr)(hb:b<nr)(hc:c<nr)(w:aa)(hF:Fr w fb cb L nx rb nr back R)(hv:w.heap[vb]?=some (.cells #[Fv 88 #[]] 190 (0,0))):Calls prog 151 #[ee op a b c fb tb eb,P0 vb] w λe w'=>(((R b).1=0/\(R c).1=0)/\e=.returned (ah 0)/\w.grownBy w' (some rb)/\Fr w' fb cb L nx rb nr back (B.set R a (0,B.wrap<|(R b).2+(R c).2)))\/(¬((R b).1=0/\(R c).1=0)/\e=.returned (ah 1)/\w.grownBy w' none):=by
 have u:=bj hF;have HV:=bj hv;clear hF hv;go_in;go_wp2_with fail
 have aA:=bj<|iU w op a b c fb tb eb;have H:=bj<|aj w (.cells #[dz op,dz a,dz b,dz c,P0 fb,P0 tb,P0 eb] 186) none;refine dq (sA op a b c fb tb eb cb L nx rb nr back R _ (u.kept H).1 (u.kept H).2.1 hb) λw1 a0=>?_;have a7:=bj<|ar H a0;have a8:=bj<|dw a0 aA;clear a0 aA H;go_wp2_with fail
 refine dq (gp (R b) _) λw2 a2=>?_;have o:=bj<|ar a7 a2;have G:=bj<|dw a2 a8;clear a2 a8 a7;let⟨x0,x1,x2,x3,x4,x5,x6⟩:=fe G;go_wp2_with fail
 refine dq (tP op a b c fb tb eb cb L nx rb nr back R w2 (u.kept o).1 (u.kept o).2.1 hc) λw3 a1=>?_;have a4:=bj<|ar o a1;have aB:=bj<|dw a1 G;clear a1 G o x0 x1 x2 x3 x4 x5 x6;go_wp2_with fail
 refine dq (gp (R c) _) λw4 Y=>?_;have i:=bj<|ar a4 Y;have a5:=bj<|dw Y aB;clear Y aB a4;let⟨x0,x1,x2,x3,x4,x5,x6⟩:=fe a5;have lx:=ch a5;have Z:=dw i HV;have v5:w4.cell? (az vb 0)=some (Fv 88 #[]):=fj Z
 clear Z;by_cases W:(R b).1=0
 .by_cases h2:(R c).1=0
  .have J:decide ((R b).1=0)=true:=iE W
   have d2:decide ((R c).1=0)=true:=iE h2
   simp only[J,d2];have HP:=bj<|bh W h2;clear W h2 J d2;generalize a3:B.wrap ((R b).2+(R c).2)=y;have hs:=Jd (R b).2 (R c).2;rw[a3]at hs;have HS:=bj hs;have aC:=bj a3;clear hs a3;go_wp2_with fail
   go_region_with (first|(go_at_call 88;refine dq (HS _) ?_;rintro w5 rfl)|(go_at_call 61;refine dq (fK y _) ?_;rintro w6 rfl)|(go_at_call 149;refine dq (kU op a b c fb tb eb cb L nx rb nr back R (0,y) _ (u.kept<|by repeat (first|exact i|refine bo ?_|refine ax ?_ _)).1 (u.kept<|by repeat (first|exact i|refine bo ?_|refine ax ?_ _)).2.1 ha) ?_;rintro w7 ⟨a9,a6⟩))
   all_goals
    have hg:w.grownBy w7 (some rb):=ar (by repeat (first|exact eT i|refine bo ?_|refine ax ?_ _)) a9;have HH:=bj<|bh hg<|bh (da hg u.1 (by intro e;injection e with e;exact u.2.2 e)) a6;clear hg a9 a6;go_wp2_with fail
    go_ret;exact ag ⟨HP,rfl,HH.1,HH.2.1,eZ aC.out HH.2.2,u.2.2⟩
  have J:decide ((R b).1=0)=true:=iE W
  have d2:decide ((R c).1=0)=false:=iE h2
  simp only[J,d2];have HP:=bj (show ¬((R b).1=0/\(R c).1=0) from λh=>h2 h.2);clear W h2 J d2;go_wp2_with fail
  go_ret;exact ak ⟨HP,rfl,i⟩
 have J:decide ((R b).1=0)=false:=iE W
 simp only[J];have HP:=bj (show ¬((R b).1=0/\(R c).1=0) from λh=>W h.1);clear W J;go_wp2_with fail
 go_ret;exact ak ⟨HP,rfl,i⟩
theorem GI(op a b c fb tb eb cb L nx rb nr vb:Nat)(back:Value)(R:Nat->B.V)(ha:a<nr)(hb:b<nr)(hc:c<nr)(w:aa)(hF:Fr w fb cb L nx rb nr back R)(hv:w.heap[vb]?=some (.cells #[Fv 90 #[]] 190 (0,0))):Calls prog 151 #[ee op a b c fb tb eb,P0 vb] w λe w'=>(((R b).1=0/\(R c).1=0)/\e=.returned (ah 0)/\w.grownBy w' (some rb)/\Fr w' fb cb L nx rb nr back (B.set R a (0,B.wrap<|(R b).2*(R c).2)))\/(¬((R b).1=0/\(R c).1=0)/\e=.returned (ah 1)/\w.grownBy w' none):=by
 have u:=bj hF;have HV:=bj hv;clear hF hv;go_in;go_wp2_with fail
 have aA:=bj<|iU w op a b c fb tb eb;have H:=bj<|aj w (.cells #[dz op,dz a,dz b,dz c,P0 fb,P0 tb,P0 eb] 186) none;refine dq (sA op a b c fb tb eb cb L nx rb nr back R _ (u.kept H).1 (u.kept H).2.1 hb) λw1 a0=>?_;have a7:=bj<|ar H a0;have a8:=bj<|dw a0 aA;clear a0 aA H;go_wp2_with fail
 refine dq (gp (R b) _) λw2 a2=>?_;have o:=bj<|ar a7 a2;have G:=bj<|dw a2 a8;clear a2 a8 a7;let⟨x0,x1,x2,x3,x4,x5,x6⟩:=fe G;go_wp2_with fail
 refine dq (tP op a b c fb tb eb cb L nx rb nr back R w2 (u.kept o).1 (u.kept o).2.1 hc) λw3 a1=>?_;have a4:=bj<|ar o a1;have aB:=bj<|dw a1 G;clear a1 G o x0 x1 x2 x3 x4 x5 x6;go_wp2_with fail
 refine dq (gp (R c) _) λw4 Y=>?_;have i:=bj<|ar a4 Y;have a5:=bj<|dw Y aB;clear Y aB a4;let⟨x0,x1,x2,x3,x4,x5,x6⟩:=fe a5;have lx:=ch a5;have Z:=dw i HV;have v5:w4.cell? (az vb 0)=some (Fv 90 #[]):=fj Z
 clear Z;by_cases W:(R b).1=0
 .by_cases h2:(R c).1=0
  .have J:decide ((R b).1=0)=true:=iE W
   have d2:decide ((R c).1=0)=true:=iE h2
   simp only[J,d2];have HP:=bj<|bh W h2;clear W h2 J d2;generalize a3:B.wrap ((R b).2*(R c).2)=y;have hs:=Io (R b).2 (R c).2;rw[a3]at hs;have HS:=bj hs;have aC:=bj a3;clear hs a3;go_wp2_with fail
   go_region_with (first|(go_at_call 90;refine dq (HS _) ?_;rintro w5 rfl)|(go_at_call 61;refine dq (fK y _) ?_;rintro w6 rfl)|(go_at_call 149;refine dq (kU op a b c fb tb eb cb L nx rb nr back R (0,y) _ (u.kept<|by repeat (first|exact i|refine bo ?_|refine ax ?_ _)).1 (u.kept<|by repeat (first|exact i|refine bo ?_|refine ax ?_ _)).2.1 ha) ?_;rintro w7 ⟨a9,a6⟩))
   all_goals
    have hg:w.grownBy w7 (some rb):=ar (by repeat (first|exact eT i|refine bo ?_|refine ax ?_ _)) a9;have HH:=bj<|bh hg<|bh (da hg u.1 (by intro e;injection e with e;exact u.2.2 e)) a6;clear hg a9 a6;go_wp2_with fail
    go_ret;exact ag ⟨HP,rfl,HH.1,HH.2.1,eZ aC.out HH.2.2,u.2.2⟩
  have J:decide ((R b).1=0)=true:=iE W
  have d2:decide ((R c).1=0)=false:=iE h2
  simp only[J,d2];have HP:=bj (show ¬((R b).1=0/\(R c).1=0) from λh=>h2 h.2);clear W h2 J d2;go_wp2_with fail
  go_ret;exact ak ⟨HP,rfl,i⟩
 have J:decide ((R b).1=0)=false:=iE W
 simp only[J];have HP:=bj (show ¬((R b).1=0/\(R c).1=0) from λh=>W h.1);clear W J;go_wp2_with fail
 go_ret;exact ak ⟨HP,rfl,i⟩
theorem GH(op a b c fb tb eb cb L nx rb nr vb:Nat)(back:Value)(R:Nat->B.V)(ha:a<nr)(hb:b<nr)(hc:c<nr)(w:aa)(hF:Fr w fb cb L nx rb nr back R)(hv:w.heap[vb]?=some (.cells #[Fv 91 #[]] 190 (0,0))):Calls prog 151 #[ee op a b c fb tb eb,P0 vb] w λe w'=>(((R b).1=0/\(R c).1=0)/\e=.returned (ah 0)/\w.grownBy w' (some rb)/\Fr w' fb cb L nx rb nr back (B.set R a (0,tJ (R b).2 (R c).2)))\/(¬((R b).1=0/\(R c).1=0)/\e=.returned (ah 1)/\w.grownBy w' none):=by
 have u:=bj hF;have HV:=bj hv;clear hF hv;go_in;go_wp2_with fail
 have aA:=bj<|iU w op a b c fb tb eb;have H:=bj<|aj w (.cells #[dz op,dz a,dz b,dz c,P0 fb,P0 tb,P0 eb] 186) none;refine dq (sA op a b c fb tb eb cb L nx rb nr back R _ (u.kept H).1 (u.kept H).2.1 hb) λw1 a0=>?_;have a7:=bj<|ar H a0;have a8:=bj<|dw a0 aA;clear a0 aA H;go_wp2_with fail
 refine dq (gp (R b) _) λw2 a2=>?_;have o:=bj<|ar a7 a2;have G:=bj<|dw a2 a8;clear a2 a8 a7;let⟨x0,x1,x2,x3,x4,x5,x6⟩:=fe G;go_wp2_with fail
 refine dq (tP op a b c fb tb eb cb L nx rb nr back R w2 (u.kept o).1 (u.kept o).2.1 hc) λw3 a1=>?_;have a4:=bj<|ar o a1;have aB:=bj<|dw a1 G;clear a1 G o x0 x1 x2 x3 x4 x5 x6;go_wp2_with fail
 refine dq (gp (R c) _) λw4 Y=>?_;have i:=bj<|ar a4 Y;have a5:=bj<|dw Y aB;clear Y aB a4;let⟨x0,x1,x2,x3,x4,x5,x6⟩:=fe a5;have lx:=ch a5;have Z:=dw i HV;have v5:w4.cell? (az vb 0)=some (Fv 91 #[]):=fj Z
 clear Z;by_cases W:(R b).1=0
 .by_cases h2:(R c).1=0
  .have J:decide ((R b).1=0)=true:=iE W
   have d2:decide ((R c).1=0)=true:=iE h2
   simp only[J,d2];have HP:=bj<|bh W h2;clear W h2 J d2;generalize a3:tJ (R b).2 (R c).2=y;have hs:=Fu (R b).2 (R c).2;rw[a3]at hs;have HS:=bj hs;have aC:=bj a3;clear hs a3;go_wp2_with fail
   go_region_with (first|(go_at_call 91;refine dq (HS _) ?_;rintro w5 rfl)|(go_at_call 61;refine dq (fK y _) ?_;rintro w6 rfl)|(go_at_call 149;refine dq (kU op a b c fb tb eb cb L nx rb nr back R (0,y) _ (u.kept<|by repeat (first|exact i|refine bo ?_|refine ax ?_ _)).1 (u.kept<|by repeat (first|exact i|refine bo ?_|refine ax ?_ _)).2.1 ha) ?_;rintro w7 ⟨a9,a6⟩))
   all_goals
    have hg:w.grownBy w7 (some rb):=ar (by repeat (first|exact eT i|refine bo ?_|refine ax ?_ _)) a9;have HH:=bj<|bh hg<|bh (da hg u.1 (by intro e;injection e with e;exact u.2.2 e)) a6;clear hg a9 a6;go_wp2_with fail
    go_ret;exact ag ⟨HP,rfl,HH.1,HH.2.1,eZ aC.out HH.2.2,u.2.2⟩
  have J:decide ((R b).1=0)=true:=iE W
  have d2:decide ((R c).1=0)=false:=iE h2
  simp only[J,d2];have HP:=bj (show ¬((R b).1=0/\(R c).1=0) from λh=>h2 h.2);clear W h2 J d2;go_wp2_with fail
  go_ret;exact ak ⟨HP,rfl,i⟩
 have J:decide ((R b).1=0)=false:=iE W
 simp only[J];have HP:=bj (show ¬((R b).1=0/\(R c).1=0) from λh=>W h.1);clear W J;go_wp2_with fail
 go_ret;exact ak ⟨HP,rfl,i⟩
