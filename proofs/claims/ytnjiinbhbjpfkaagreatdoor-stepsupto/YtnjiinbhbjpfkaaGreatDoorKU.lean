import Derived.Test.YtnjiinbhbjpfkaaGreatDoorKM
set_option maxRecDepth 100000
set_option maxHeartbeats 0
set_option linter.all false
namespace Go.Proofs.YtnjiinbhbjpfkaaGreatDoor
open Go.RowKit Go.Proofs.Tryz
section
theorem FK(x y:Int)(w:World):Calls prog 88 #[.int .i64 x,.int .i64 y] w λe w'=>e=.returned (.int .i64 (B.wrap (x+y)))/\w'=w:=by
 have hw:IntKind.i64.wrap (x+y)=B.wrap (x+y):=by simp[IntKind.wrap,IntKind.bits,IntKind.signed,B.wrap];omega
 go_in;go_wp2_with fail
 go_ret;exact⟨by rw[<-hw];rfl,rfl⟩
theorem ER(x y:Int)(w:World):Calls prog 90 #[.int .i64 x,.int .i64 y] w λe w'=>e=.returned (.int .i64 (B.wrap (x*y)))/\w'=w:=by
 have hw:IntKind.i64.wrap (x*y)=B.wrap (x*y):=by
  generalize x*y=z;simp[IntKind.wrap,IntKind.bits,IntKind.signed,B.wrap];omega
 go_in;go_wp2_with fail
 go_ret;exact⟨by rw[<-hw];rfl,rfl⟩
def pF(x y:Int):Int:=if x<y then 1 else 0
theorem C3(x y:Int)(w:World):Calls prog 91 #[.int .i64 x,.int .i64 y] w λe w'=>e=.returned (.int .i64 (pF x y))/\w'=w:=by
 have i:∀d:Bool,decide (x<y)=d->Calls prog 91 #[.int .i64 x,.int .i64 y] w λe w'=>e=.returned (.int .i64 (if d=true then 1 else 0))/\w'=w:=by
  intro d u;have o:=az (uu d);generalize hz:(if d=true then(1:Int) else 0)=z at *;go_in;go_wp2_with fail
  refine(o _).mono ?_;rintro e w1 ⟨rfl,rfl⟩;go_wp2_with fail
  go_ret;exact⟨rfl,rfl⟩
 have:=i (decide (x<y)) rfl;have e:pF x y=if decide (x<y)=true then 1 else 0:=by unfold pF;by_cases h:x<y<;>simp[h]
 rw[e];exact this
theorem D1(op a b c fb tb eb cb L nx rb nr vb:Nat)(back:Value)(R:Nat->B.V)(ha:a<nr)(hb:b<nr)(hc:c<nr)(w:World)(hF:Fr w fb cb L nx rb nr back R)(hv:w.heap[vb]? = some (.cells #[Fv 88 #[]] 190 (0,0))): Calls prog 151 #[dZ op a b c fb tb eb,P0 vb] w λe w'=>(((R b).1=0/\(R c).1=0)/\e=.returned (.int .i64 0)/\w.grownBy w' (some rb)/\Fr w' fb cb L nx rb nr back (B.set R a (0,B.wrap ((R b).2+(R c).2))))\/(¬((R b).1=0/\(R c).1=0)/\e=.returned (.int .i64 1)/\w.grownBy w' none):=by
 have u:=az hF;have HV:=az hv;clear hF hv;go_in;go_wp2_with fail
 have aA:=az (jf w op a b c fb tb eb);have H:=az (ah w (.cells #[.int .u8 op,.int .u8 a,.int .u8 b,.int .u8 c,P0 fb,P0 tb,P0 eb] 186) none);refine(pO op a b c fb tb eb cb L nx rb nr back R _ (u.kept H).1 (u.kept H).2.1 hb).mono ?_;rintro e w1 ⟨rfl,a0⟩;have a7:=az (an H a0);have a8:=az (dp a0 aA);clear a0 aA H;go_wp2_with fail
 refine(ft (R b) _).mono ?_;rintro e w2 ⟨rfl,a2⟩;have o:=az (an a7 a2);have G:=az (dp a2 a8);clear a2 a8 a7;obtain⟨x0,x1,x2,x3,x4,x5,x6⟩:=fk G;go_wp2_with fail
 refine(qJ op a b c fb tb eb cb L nx rb nr back R w2 (u.kept o).1 (u.kept o).2.1 hc).mono ?_;rintro e w3 ⟨rfl,a1⟩;have a4:=az (an o a1);have aB:=az (dp a1 G);clear a1 G o x0 x1 x2 x3 x4 x5 x6;go_wp2_with fail
 refine(ft (R c) _).mono ?_;rintro e w4 ⟨rfl,Y⟩;have i:=az (an a4 Y);have a5:=az (dp Y aB);clear Y aB a4;obtain⟨x0,x1,x2,x3,x4,x5,x6⟩:=fk a5;have lx:=bz a5;have Z:=dp i HV;have v5:w4.cell? ⟨vb,0,none⟩=some (Fv 88 #[]):=by simp[World.cell?,Z]
 clear Z;by_cases W:(R b).1=0
 .by_cases h2:(R c).1=0
  .have J:decide ((R b).1=0)=true:=by simpa using W
   have d2:decide ((R c).1=0)=true:=by simpa using h2
   simp only[J,d2];have HP:=az (ay W h2);clear W h2 J d2;generalize a3:B.wrap ((R b).2+(R c).2)=y;have hs:=FK (R b).2 (R c).2;rw[a3]at hs;have HS:=az hs;have aC:=az a3;clear hs a3;go_wp2_with fail
   go_region_with (first|(go_at_call 88;refine(HS _).mono ?_;rintro e w5 ⟨rfl,rfl⟩)|(go_at_call 61;refine(fH y _).mono ?_;rintro e w6 ⟨rfl,rfl⟩)|(go_at_call 149;refine(js op a b c fb tb eb cb L nx rb nr back R (0,y) _ (u.kept (by repeat (first|exact i|refine bq ?_|refine au ?_ _))).1 (u.kept (by repeat (first|exact i|refine bq ?_|refine au ?_ _))).2.1 ha).mono ?_;rintro e w7 ⟨rfl,a9,a6⟩))
   all_goals
    have hg:w.grownBy w7 (some rb):=an (by repeat (first|exact eD i|refine bq ?_|refine au ?_ _)) a9;have HH:=az (ay hg (ay (cm hg u.1 (by intro e;injection e with e;exact u.2.2 e)) a6));clear hg a9 a6;go_wp2_with fail
    go_ret;exact ag ⟨HP,rfl,HH.1,HH.2.1,by rw[aC.out];exact HH.2.2,u.2.2⟩
  have J:decide ((R b).1=0)=true:=by simpa using W
  have d2:decide ((R c).1=0)=false:=by simpa using h2
  simp only[J,d2];have HP:=az (show ¬((R b).1=0/\(R c).1=0) from λh=>h2 h.2);clear W h2 J d2;go_wp2_with fail
  go_ret;exact ab ⟨HP,rfl,i⟩
 have J:decide ((R b).1=0)=false:=by simpa using W
 simp only[J];have HP:=az (show ¬((R b).1=0/\(R c).1=0) from λh=>W h.1);clear W J;go_wp2_with fail
 go_ret;exact ab ⟨HP,rfl,i⟩
theorem DZ(op a b c fb tb eb cb L nx rb nr vb:Nat)(back:Value)(R:Nat->B.V)(ha:a<nr)(hb:b<nr)(hc:c<nr)(w:World)(hF:Fr w fb cb L nx rb nr back R)(hv:w.heap[vb]? = some (.cells #[Fv 90 #[]] 190 (0,0))): Calls prog 151 #[dZ op a b c fb tb eb,P0 vb] w λe w'=>(((R b).1=0/\(R c).1=0)/\e=.returned (.int .i64 0)/\w.grownBy w' (some rb)/\Fr w' fb cb L nx rb nr back (B.set R a (0,B.wrap ((R b).2*(R c).2))))\/(¬((R b).1=0/\(R c).1=0)/\e=.returned (.int .i64 1)/\w.grownBy w' none):=by
 have u:=az hF;have HV:=az hv;clear hF hv;go_in;go_wp2_with fail
 have aA:=az (jf w op a b c fb tb eb);have H:=az (ah w (.cells #[.int .u8 op,.int .u8 a,.int .u8 b,.int .u8 c,P0 fb,P0 tb,P0 eb] 186) none);refine(pO op a b c fb tb eb cb L nx rb nr back R _ (u.kept H).1 (u.kept H).2.1 hb).mono ?_;rintro e w1 ⟨rfl,a0⟩;have a7:=az (an H a0);have a8:=az (dp a0 aA);clear a0 aA H;go_wp2_with fail
 refine(ft (R b) _).mono ?_;rintro e w2 ⟨rfl,a2⟩;have o:=az (an a7 a2);have G:=az (dp a2 a8);clear a2 a8 a7;obtain⟨x0,x1,x2,x3,x4,x5,x6⟩:=fk G;go_wp2_with fail
 refine(qJ op a b c fb tb eb cb L nx rb nr back R w2 (u.kept o).1 (u.kept o).2.1 hc).mono ?_;rintro e w3 ⟨rfl,a1⟩;have a4:=az (an o a1);have aB:=az (dp a1 G);clear a1 G o x0 x1 x2 x3 x4 x5 x6;go_wp2_with fail
 refine(ft (R c) _).mono ?_;rintro e w4 ⟨rfl,Y⟩;have i:=az (an a4 Y);have a5:=az (dp Y aB);clear Y aB a4;obtain⟨x0,x1,x2,x3,x4,x5,x6⟩:=fk a5;have lx:=bz a5;have Z:=dp i HV;have v5:w4.cell? ⟨vb,0,none⟩=some (Fv 90 #[]):=by simp[World.cell?,Z]
 clear Z;by_cases W:(R b).1=0
 .by_cases h2:(R c).1=0
  .have J:decide ((R b).1=0)=true:=by simpa using W
   have d2:decide ((R c).1=0)=true:=by simpa using h2
   simp only[J,d2];have HP:=az (ay W h2);clear W h2 J d2;generalize a3:B.wrap ((R b).2*(R c).2)=y;have hs:=ER (R b).2 (R c).2;rw[a3]at hs;have HS:=az hs;have aC:=az a3;clear hs a3;go_wp2_with fail
   go_region_with (first|(go_at_call 90;refine(HS _).mono ?_;rintro e w5 ⟨rfl,rfl⟩)|(go_at_call 61;refine(fH y _).mono ?_;rintro e w6 ⟨rfl,rfl⟩)|(go_at_call 149;refine(js op a b c fb tb eb cb L nx rb nr back R (0,y) _ (u.kept (by repeat (first|exact i|refine bq ?_|refine au ?_ _))).1 (u.kept (by repeat (first|exact i|refine bq ?_|refine au ?_ _))).2.1 ha).mono ?_;rintro e w7 ⟨rfl,a9,a6⟩))
   all_goals
    have hg:w.grownBy w7 (some rb):=an (by repeat (first|exact eD i|refine bq ?_|refine au ?_ _)) a9;have HH:=az (ay hg (ay (cm hg u.1 (by intro e;injection e with e;exact u.2.2 e)) a6));clear hg a9 a6;go_wp2_with fail
    go_ret;exact ag ⟨HP,rfl,HH.1,HH.2.1,by rw[aC.out];exact HH.2.2,u.2.2⟩
  have J:decide ((R b).1=0)=true:=by simpa using W
  have d2:decide ((R c).1=0)=false:=by simpa using h2
  simp only[J,d2];have HP:=az (show ¬((R b).1=0/\(R c).1=0) from λh=>h2 h.2);clear W h2 J d2;go_wp2_with fail
  go_ret;exact ab ⟨HP,rfl,i⟩
 have J:decide ((R b).1=0)=false:=by simpa using W
 simp only[J];have HP:=az (show ¬((R b).1=0/\(R c).1=0) from λh=>W h.1);clear W J;go_wp2_with fail
 go_ret;exact ab ⟨HP,rfl,i⟩
theorem DY(op a b c fb tb eb cb L nx rb nr vb:Nat)(back:Value)(R:Nat->B.V)(ha:a<nr)(hb:b<nr)(hc:c<nr)(w:World)(hF:Fr w fb cb L nx rb nr back R)(hv:w.heap[vb]? = some (.cells #[Fv 91 #[]] 190 (0,0))): Calls prog 151 #[dZ op a b c fb tb eb,P0 vb] w λe w'=>(((R b).1=0/\(R c).1=0)/\e=.returned (.int .i64 0)/\w.grownBy w' (some rb)/\Fr w' fb cb L nx rb nr back (B.set R a (0,pF (R b).2 (R c).2)))\/(¬((R b).1=0/\(R c).1=0)/\e=.returned (.int .i64 1)/\w.grownBy w' none):=by
 have u:=az hF;have HV:=az hv;clear hF hv;go_in;go_wp2_with fail
 have aA:=az (jf w op a b c fb tb eb);have H:=az (ah w (.cells #[.int .u8 op,.int .u8 a,.int .u8 b,.int .u8 c,P0 fb,P0 tb,P0 eb] 186) none);refine(pO op a b c fb tb eb cb L nx rb nr back R _ (u.kept H).1 (u.kept H).2.1 hb).mono ?_;rintro e w1 ⟨rfl,a0⟩;have a7:=az (an H a0);have a8:=az (dp a0 aA);clear a0 aA H;go_wp2_with fail
 refine(ft (R b) _).mono ?_;rintro e w2 ⟨rfl,a2⟩;have o:=az (an a7 a2);have G:=az (dp a2 a8);clear a2 a8 a7;obtain⟨x0,x1,x2,x3,x4,x5,x6⟩:=fk G;go_wp2_with fail
 refine(qJ op a b c fb tb eb cb L nx rb nr back R w2 (u.kept o).1 (u.kept o).2.1 hc).mono ?_;rintro e w3 ⟨rfl,a1⟩;have a4:=az (an o a1);have aB:=az (dp a1 G);clear a1 G o x0 x1 x2 x3 x4 x5 x6;go_wp2_with fail
 refine(ft (R c) _).mono ?_;rintro e w4 ⟨rfl,Y⟩;have i:=az (an a4 Y);have a5:=az (dp Y aB);clear Y aB a4;obtain⟨x0,x1,x2,x3,x4,x5,x6⟩:=fk a5;have lx:=bz a5;have Z:=dp i HV;have v5:w4.cell? ⟨vb,0,none⟩=some (Fv 91 #[]):=by simp[World.cell?,Z]
 clear Z;by_cases W:(R b).1=0
 .by_cases h2:(R c).1=0
  .have J:decide ((R b).1=0)=true:=by simpa using W
   have d2:decide ((R c).1=0)=true:=by simpa using h2
   simp only[J,d2];have HP:=az (ay W h2);clear W h2 J d2;generalize a3:pF (R b).2 (R c).2=y;have hs:=C3 (R b).2 (R c).2;rw[a3]at hs;have HS:=az hs;have aC:=az a3;clear hs a3;go_wp2_with fail
   go_region_with (first|(go_at_call 91;refine(HS _).mono ?_;rintro e w5 ⟨rfl,rfl⟩)|(go_at_call 61;refine(fH y _).mono ?_;rintro e w6 ⟨rfl,rfl⟩)|(go_at_call 149;refine(js op a b c fb tb eb cb L nx rb nr back R (0,y) _ (u.kept (by repeat (first|exact i|refine bq ?_|refine au ?_ _))).1 (u.kept (by repeat (first|exact i|refine bq ?_|refine au ?_ _))).2.1 ha).mono ?_;rintro e w7 ⟨rfl,a9,a6⟩))
   all_goals
    have hg:w.grownBy w7 (some rb):=an (by repeat (first|exact eD i|refine bq ?_|refine au ?_ _)) a9;have HH:=az (ay hg (ay (cm hg u.1 (by intro e;injection e with e;exact u.2.2 e)) a6));clear hg a9 a6;go_wp2_with fail
    go_ret;exact ag ⟨HP,rfl,HH.1,HH.2.1,by rw[aC.out];exact HH.2.2,u.2.2⟩
  have J:decide ((R b).1=0)=true:=by simpa using W
  have d2:decide ((R c).1=0)=false:=by simpa using h2
  simp only[J,d2];have HP:=az (show ¬((R b).1=0/\(R c).1=0) from λh=>h2 h.2);clear W h2 J d2;go_wp2_with fail
  go_ret;exact ab ⟨HP,rfl,i⟩
 have J:decide ((R b).1=0)=false:=by simpa using W
 simp only[J];have HP:=az (show ¬((R b).1=0/\(R c).1=0) from λh=>W h.1);clear W J;go_wp2_with fail
 go_ret;exact ab ⟨HP,rfl,i⟩
