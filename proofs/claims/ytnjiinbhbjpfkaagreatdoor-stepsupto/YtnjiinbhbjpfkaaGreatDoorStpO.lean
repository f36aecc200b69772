import Derived.Test.YtnjiinbhbjpfkaaGreatDoorStpN
import Derived.Shelf.Spec.SlicesInsertGrow
set_option maxRecDepth 100000
set_option maxHeartbeats 0
set_option linter.all false
namespace Go.Proofs.YtnjiinbhbjpfkaaGreatDoor
open Go.RowKit Go.Proofs.Tryz
section
theorem Er(x y:Int)(w:World):Calls prog 89 #[.int .i64 x,.int .i64 y] w λe w'=>e=.returned (.int .i64 (B.wrap (x-y)))/\w'=w:=by
 have hw:IntKind.i64.wrap (x-y)=B.wrap (x-y):=by simp[IntKind.wrap,IntKind.bits,IntKind.signed,B.wrap];omega
 go_in;go_wp2_with fail
 go_ret;exact⟨by rw[<-hw];rfl,rfl⟩
theorem D0(op a b c fb tb eb cb L nx rb nr vb:Nat)(back:Value)(R:Nat->B.V)(ha:a<nr)(hb:b<nr)(hc:c<nr)(w:World)(hF:Fr w fb cb L nx rb nr back R)(hv:w.heap[vb]? = some (.cells #[Fv 89 #[]] 190 (0,0))): Calls prog 151 #[dZ op a b c fb tb eb,P0 vb] w λe w'=>(((R b).1=0/\(R c).1=0)/\e=.returned (.int .i64 0)/\w.grownBy w' (some rb)/\Fr w' fb cb L nx rb nr back (B.set R a (0,B.wrap ((R b).2-(R c).2))))\/(¬((R b).1=0/\(R c).1=0)/\e=.returned (.int .i64 1)/\w.grownBy w' none):=by
 have H:=az hF;have HV:=az hv;clear hF hv;go_in;go_wp2_with fail
 have a5:=az (jf w op a b c fb tb eb);have G:=az (ah w (.cells #[.int .u8 (op:Int),.int .u8 (a:Int),.int .u8 (b:Int),.int .u8 (c:Int),P0 fb,P0 tb,P0 eb] 186) none);refine(pO op a b c fb tb eb cb L nx rb nr back R _ (H.out.kept G.out).1 (H.out.kept G.out).2.1 hb).mono ?_;rintro e w1 ⟨rfl,a0⟩;have a6:=az (an G.out a0);have aA:=az (dp a0 a5.out);clear a0 a5 G;go_wp2_with fail
 refine(ft (R b) _).mono ?_;rintro e w2 ⟨rfl,a2⟩;have o:=az (an a6.out a2);have u:=az (dp a2 aA.out);clear a2 aA a6;obtain⟨x0,x1,x2,x3,x4,x5,x6⟩:=fk u.out;go_wp2_with fail
 refine(qJ op a b c fb tb eb cb L nx rb nr back R w2 (H.out.kept o.out).1 (H.out.kept o.out).2.1 hc).mono ?_;rintro e w3 ⟨rfl,Y⟩;have a7:=az (an o.out Y);have a8:=az (dp Y u.out);clear Y u o x0 x1 x2 x3 x4 x5 x6;go_wp2_with fail
 refine(ft (R c) _).mono ?_;rintro e w4 ⟨rfl,a1⟩;have i:=az (an a7.out a1);have a4:=az (dp a1 a8.out);clear a1 a8 a7;obtain⟨x0,x1,x2,x3,x4,x5,x6⟩:=fk a4.out;have lx:=bz a4.out;have Z:=dp i.out HV.out;have v5:w4.cell? ⟨vb,0,none⟩=some (Fv 89 #[]):=by simp[World.cell?,Z]
 clear Z;by_cases J:(R b).1=0
 .by_cases h2:(R c).1=0
  .have W:decide ((R b).1=0)=true:=by simpa using J
   have d2:decide ((R c).1=0)=true:=by simpa using h2
   simp only[W,d2];have HP:=az (ay J h2);clear J h2 W d2;generalize a3:B.wrap ((R b).2-(R c).2)=y;have hs:=Er (R b).2 (R c).2;rw[a3]at hs;have HS:=az hs;have aC:=az a3;clear hs a3;go_wp2_with fail
   go_region_with (first|(go_at_call 89;refine(HS.out _).mono ?_;rintro e w5 ⟨rfl,rfl⟩)|(go_at_call 61;refine(fH y _).mono ?_;rintro e w6 ⟨rfl,rfl⟩)|(go_at_call 149;refine(js op a b c fb tb eb cb L nx rb nr back R (0,y) _ (H.out.kept (by repeat (first|exact i.out|refine bq ?_|refine au ?_ _))).1 (H.out.kept (by repeat (first|exact i.out|refine bq ?_|refine au ?_ _))).2.1 ha).mono ?_;rintro e w7 ⟨rfl,aB,a9⟩))
   all_goals
    have hg:w.grownBy w7 (some rb):=an (by repeat (first|exact eD i.out|refine bq ?_|refine au ?_ _)) aB;have HH:=az (ay hg (ay (cm hg H.out.1 (by intro e;injection e with e;exact H.out.2.2 e)) a9));clear hg aB a9;go_wp2_with fail
    go_ret;exact ag ⟨HP.out,rfl,HH.out.1,HH.out.2.1,by rw[aC.out];exact HH.out.2.2,H.out.2.2⟩
  have W:decide ((R b).1=0)=true:=by simpa using J
  have d2:decide ((R c).1=0)=false:=by simpa using h2
  simp only[W,d2];have HP:=az (show ¬((R b).1=0/\(R c).1=0) from λh=>h2 h.2);clear J h2 W d2;go_wp2_with fail
  go_ret;exact ab ⟨HP.out,rfl,i.out⟩
 have W:decide ((R b).1=0)=false:=by simpa using J
 simp only[W];have HP:=az (show ¬((R b).1=0/\(R c).1=0) from λh=>J h.1);clear J W;go_wp2_with fail
 go_ret;exact ab ⟨HP.out,rfl,i.out⟩
theorem FK(x y:Int)(w:World):Calls prog 88 #[.int .i64 x,.int .i64 y] w λe w'=>e=.returned (.int .i64 (B.wrap (x+y)))/\w'=w:=by
 have hw:IntKind.i64.wrap (x+y)=B.wrap (x+y):=by simp[IntKind.wrap,IntKind.bits,IntKind.signed,B.wrap];omega
 go_in;go_wp2_with fail
 go_ret;exact⟨by rw[<-hw];rfl,rfl⟩
theorem ER(x y:Int)(w:World):Calls prog 90 #[.int .i64 x,.int .i64 y] w λe w'=>e=.returned (.int .i64 (B.wrap (x*y)))/\w'=w:=by
 have hw:IntKind.i64.wrap (x*y)=B.wrap (x*y):=by
  generalize x*y=z;simp[IntKind.wrap,IntKind.bits,IntKind.signed,B.wrap];omega
 go_in;go_wp2_with fail
 go_ret;exact⟨by rw[<-hw];rfl,rfl⟩
def pF(x y:Int):Int:=if x<y then 1 else 0
theorem C3(x y:Int)(w:World):Calls prog 91 #[.int .i64 x,.int .i64 y] w λe w'=>e=.returned (.int .i64 (pF x y))/\w'=w:=by
 have i:∀d:Bool,decide (x<y)=d->Calls prog 91 #[.int .i64 x,.int .i64 y] w λe w'=>e=.returned (.int .i64 (if d=true then 1 else 0))/\w'=w:=by
  intro d u;have o:=az (uu d);generalize hz:(if d=true then(1:Int) else 0)=z at *;go_in;go_wp2_with fail
  refine(o _).mono ?_;rintro e w1 ⟨rfl,rfl⟩;go_wp2_with fail
  go_ret;exact⟨rfl,rfl⟩
 have:=i (decide (x<y)) rfl;have e:pF x y=if decide (x<y)=true then 1 else 0:=by unfold pF;by_cases h:x<y<;>simp[h]
 rw[e];exact this
theorem D1(op a b c fb tb eb cb L nx rb nr vb:Nat)(back:Value)(R:Nat->B.V)(ha:a<nr)(hb:b<nr)(hc:c<nr)(w:World)(hF:Fr w fb cb L nx rb nr back R)(hv:w.heap[vb]? = some (.cells #[Fv 88 #[]] 190 (0,0))): Calls prog 151 #[dZ op a b c fb tb eb,P0 vb] w λe w'=>(((R b).1=0/\(R c).1=0)/\e=.returned (.int .i64 0)/\w.grownBy w' (some rb)/\Fr w' fb cb L nx rb nr back (B.set R a (0,B.wrap ((R b).2+(R c).2))))\/(¬((R b).1=0/\(R c).1=0)/\e=.returned (.int .i64 1)/\w.grownBy w' none):=by
 have u:=az hF;have HV:=az hv;clear hF hv;go_in;go_wp2_with fail
 have aA:=az (jf w op a b c fb tb eb);have H:=az (ah w (.cells #[.int .u8 op,.int .u8 a,.int .u8 b,.int .u8 c,P0 fb,P0 tb,P0 eb] 186) none);refine(pO op a b c fb tb eb cb L nx rb nr back R _ (u.kept H).1 (u.kept H).2.1 hb).mono ?_;rintro e w1 ⟨rfl,a0⟩;have a7:=az (an H a0);have a8:=az (dp a0 aA);clear a0 aA H;go_wp2_with fail
 refine(ft (R b) _).mono ?_;rintro e w2 ⟨rfl,a2⟩;have o:=az (an a7 a2);have G:=az (dp a2 a8);clear a2 a8 a7;obtain⟨x0,x1,x2,x3,x4,x5,x6⟩:=fk G;go_wp2_with fail
 refine(qJ op a b c fb tb eb cb L nx rb nr back R w2 (u.kept o).1 (u.kept o).2.1 hc).mono ?_;rintro e w3 ⟨rfl,a1⟩;have a4:=az (an o a1);have aB:=az (dp a1 G);clear a1 G o x0 x1 x2 x3 x4 x5 x6;go_wp2_with fail
 refine(ft (R c) _).mono ?_;rintro e w4 ⟨rfl,Y⟩;have i:=az (an a4 Y);have a5:=az (dp Y aB);clear Y aB a4;obtain⟨x0,x1,x2,x3,x4,x5,x6⟩:=fk a5;have lx:=bz a5;have Z:=dp i HV;have v5:w4.cell? ⟨vb,0,none⟩=some (Fv 88 #[]):=by simp[World.cell?,Z]
 clear Z;by_cases W:(R b).1=0
 .by_cases h2:(R c).1=0
  .have J:decide ((R b).1=0)=true:=by simpa using W
   have d2:decide ((R c).1=0)=true:=by simpa using h2
   simp only[J,d2];have HP:=az (ay W h2);clear W h2 J d2;generalize a3:B.wrap ((R b).2+(R c).2)=y;have hs:=FK (R b).2 (R c).2;rw[a3]at hs;have HS:=az hs;have aC:=az a3;clear hs a3;go_wp2_with fail
   go_region_with (first|(go_at_call 88;refine(HS _).mono ?_;rintro e w5 ⟨rfl,rfl⟩)|(go_at_call 61;refine(fH y _).mono ?_;rintro e w6 ⟨rfl,rfl⟩)|(go_at_call 149;refine(js op a b c fb tb eb cb L nx rb nr back R (0,y) _ (u.kept (by repeat (first|exact i|refine bq ?_|refine au ?_ _))).1 (u.kept (by repeat (first|exact i|refine bq ?_|refine au ?_ _))).2.1 ha).mono ?_;rintro e w7 ⟨rfl,a9,a6⟩))
   all_goals
    have hg:w.grownBy w7 (some rb):=an (by repeat (first|exact eD i|refine bq ?_|refine au ?_ _)) a9;have HH:=az (ay hg (ay (cm hg u.1 (by intro e;injection e with e;exact u.2.2 e)) a6));clear hg a9 a6;go_wp2_with fail
    go_ret;exact ag ⟨HP,rfl,HH.1,HH.2.1,by rw[aC.out];exact HH.2.2,u.2.2⟩
  have J:decide ((R b).1=0)=true:=by simpa using W
  have d2:decide ((R c).1=0)=false:=by simpa using h2
  simp only[J,d2];have HP:=az (show ¬((R b).1=0/\(R c).1=0) from λh=>h2 h.2);clear W h2 J d2;go_wp2_with fail
  go_ret;exact ab ⟨HP,rfl,i⟩
 have J:decide ((R b).1=0)=false:=by simpa using W
 simp only[J];have HP:=az (show ¬((R b).1=0/\(R c).1=0) from λh=>W h.1);clear W J;go_wp2_with fail
 go_ret;exact ab ⟨HP,rfl,i⟩
theorem DZ(op a b c fb tb eb cb L nx rb nr vb:Nat)(back:Value)(R:Nat->B.V)(ha:a<nr)(hb:b<nr)(hc:c<nr)(w:World)(hF:Fr w fb cb L nx rb nr back R)(hv:w.heap[vb]? = some (.cells #[Fv 90 #[]] 190 (0,0))): Calls prog 151 #[dZ op a b c fb tb eb,P0 vb] w λe w'=>(((R b).1=0/\(R c).1=0)/\e=.returned (.int .i64 0)/\w.grownBy w' (some rb)/\Fr w' fb cb L nx rb nr back (B.set R a (0,B.wrap ((R b).2*(R c).2))))\/(¬((R b).1=0/\(R c).1=0)/\e=.returned (.int .i64 1)/\w.grownBy w' none):=by
 have u:=az hF;have HV:=az hv;clear hF hv;go_in;go_wp2_with fail
 have aA:=az (jf w op a b c fb tb eb);have H:=az (ah w (.cells #[.int .u8 op,.int .u8 a,.int .u8 b,.int .u8 c,P0 fb,P0 tb,P0 eb] 186) none);refine(pO op a b c fb tb eb cb L nx rb nr back R _ (u.kept H).1 (u.kept H).2.1 hb).mono ?_;rintro e w1 ⟨rfl,a0⟩;have a7:=az (an H a0);have a8:=az (dp a0 aA);clear a0 aA H;go_wp2_with fail
 refine(ft (R b) _).mono ?_;rintro e w2 ⟨rfl,a2⟩;have o:=az (an a7 a2);have G:=az (dp a2 a8);clear a2 a8 a7;obtain⟨x0,x1,x2,x3,x4,x5,x6⟩:=fk G;go_wp2_with fail
 refine(qJ op a b c fb tb eb cb L nx rb nr back R w2 (u.kept o).1 (u.kept o).2.1 hc).mono ?_;rintro e w3 ⟨rfl,a1⟩;have a4:=az (an o a1);have aB:=az (dp a1 G);clear a1 G o x0 x1 x2 x3 x4 x5 x6;go_wp2_with fail
 refine(ft (R c) _).mono ?_;rintro e w4 ⟨rfl,Y⟩;have i:=az (an a4 Y);have a5:=az (dp Y aB);clear Y aB a4;obtain⟨x0,x1,x2,x3,x4,x5,x6⟩:=fk a5;have lx:=bz a5;have Z:=dp i HV;have v5:w4.cell? ⟨vb,0,none⟩=some (Fv 90 #[]):=by simp[World.cell?,Z]
 clear Z;by_cases W:(R b).1=0
 .by_cases h2:(R c).1=0
  .have J:decide ((R b).1=0)=true:=by simpa using W
   have d2:decide ((R c).1=0)=true:=by simpa using h2
   simp only[J,d2];have HP:=az (ay W h2);clear W h2 J d2;generalize a3:B.wrap ((R b).2*(R c).2)=y;have hs:=ER (R b).2 (R c).2;rw[a3]at hs;have HS:=az hs;have aC:=az a3;clear hs a3;go_wp2_with fail
   go_region_with (first|(go_at_call 90;refine(HS _).mono ?_;rintro e w5 ⟨rfl,rfl⟩)|(go_at_call 61;refine(fH y _).mono ?_;rintro e w6 ⟨rfl,rfl⟩)|(go_at_call 149;refine(js op a b c fb tb eb cb L nx rb nr back R (0,y) _ (u.kept (by repeat (first|exact i|refine bq ?_|refine au ?_ _))).1 (u.kept (by repeat (first|exact i|refine bq ?_|refine au ?_ _))).2.1 ha).mono ?_;rintro e w7 ⟨rfl,a9,a6⟩))
   all_goals
    have hg:w.grownBy w7 (some rb):=an (by repeat (first|exact eD i|refine bq ?_|refine au ?_ _)) a9;have HH:=az (ay hg (ay (cm hg u.1 (by intro e;injection e with e;exact u.2.2 e)) a6));clear hg a9 a6;go_wp2_with fail
    go_ret;exact ag ⟨HP,rfl,HH.1,HH.2.1,by rw[aC.out];exact HH.2.2,u.2.2⟩
  have J:decide ((R b).1=0)=true:=by simpa using W
  have d2:decide ((R c).1=0)=false:=by simpa using h2
  simp only[J,d2];have HP:=az (show ¬((R b).1=0/\(R c).1=0) from λh=>h2 h.2);clear W h2 J d2;go_wp2_with fail
  go_ret;exact ab ⟨HP,rfl,i⟩
 have J:decide ((R b).1=0)=false:=by simpa using W
 simp only[J];have HP:=az (show ¬((R b).1=0/\(R c).1=0) from λh=>W h.1);clear W J;go_wp2_with fail
 go_ret;exact ab ⟨HP,rfl,i⟩
theorem DY(op a b c fb tb eb cb L nx rb nr vb:Nat)(back:Value)(R:Nat->B.V)(ha:a<nr)(hb:b<nr)(hc:c<nr)(w:World)(hF:Fr w fb cb L nx rb nr back R)(hv:w.heap[vb]? = some (.cells #[Fv 91 #[]] 190 (0,0))): Calls prog 151 #[dZ op a b c fb tb eb,P0 vb] w λe w'=>(((R b).1=0/\(R c).1=0)/\e=.returned (.int .i64 0)/\w.grownBy w' (some rb)/\Fr w' fb cb L nx rb nr back (B.set R a (0,pF (R b).2 (R c).2)))\/(¬((R b).1=0/\(R c).1=0)/\e=.returned (.int .i64 1)/\w.grownBy w' none):=by
 have u:=az hF;have HV:=az hv;clear hF hv;go_in;go_wp2_with fail
 have aA:=az (jf w op a b c fb tb eb);have H:=az (ah w (.cells #[.int .u8 op,.int .u8 a,.int .u8 b,.int .u8 c,P0 fb,P0 tb,P0 eb] 186) none);refine(pO op a b c fb tb eb cb L nx rb nr back R _ (u.kept H).1 (u.kept H).2.1 hb).mono ?_;rintro e w1 ⟨rfl,a0⟩;have a7:=az (an H a0);have a8:=az (dp a0 aA);clear a0 aA H;go_wp2_with fail
 refine(ft (R b) _).mono ?_;rintro e w2 ⟨rfl,a2⟩;have o:=az (an a7 a2);have G:=az (dp a2 a8);clear a2 a8 a7;obtain⟨x0,x1,x2,x3,x4,x5,x6⟩:=fk G;go_wp2_with fail
 refine(qJ op a b c fb tb eb cb L nx rb nr back R w2 (u.kept o).1 (u.kept o).2.1 hc).mono ?_;rintro e w3 ⟨rfl,a1⟩;have a4:=az (an o a1);have aB:=az (dp a1 G);clear a1 G o x0 x1 x2 x3 x4 x5 x6;go_wp2_with fail
 refine(ft (R c) _).mono ?_;rintro e w4 ⟨rfl,Y⟩;have i:=az (an a4 Y);have a5:=az (dp Y aB);clear Y aB a4;obtain⟨x0,x1,x2,x3,x4,x5,x6⟩:=fk a5;have lx:=bz a5;have Z:=dp i HV;have v5:w4.cell? ⟨vb,0,none⟩=some (Fv 91 #[]):=by simp[World.cell?,Z]
 clear Z;by_cases W:(R b).1=0
 .by_cases h2:(R c).1=0
  .have J:decide ((R b).1=0)=true:=by simpa using W
   have d2:decide ((R c).1=0)=true:=by simpa using h2
   simp only[J,d2];have HP:=az (ay W h2);clear W h2 J d2;generalize a3:pF (R b).2 (R c).2=y;have hs:=C3 (R b).2 (R c).2;rw[a3]at hs;have HS:=az hs;have aC:=az a3;clear hs a3;go_wp2_with fail
   go_region_with (first|(go_at_call 91;refine(HS _).mono ?_;rintro e w5 ⟨rfl,rfl⟩)|(go_at_call 61;refine(fH y _).mono ?_;rintro e w6 ⟨rfl,rfl⟩)|(go_at_call 149;refine(js op a b c fb tb eb cb L nx rb nr back R (0,y) _ (u.kept (by repeat (first|exact i|refine bq ?_|refine au ?_ _))).1 (u.kept (by repeat (first|exact i|refine bq ?_|refine au ?_ _))).2.1 ha).mono ?_;rintro e w7 ⟨rfl,a9,a6⟩))
   all_goals
    have hg:w.grownBy w7 (some rb):=an (by repeat (first|exact eD i|refine bq ?_|refine au ?_ _)) a9;have HH:=az (ay hg (ay (cm hg u.1 (by intro e;injection e with e;exact u.2.2 e)) a6));clear hg a9 a6;go_wp2_with fail
    go_ret;exact ag ⟨HP,rfl,HH.1,HH.2.1,by rw[aC.out];exact HH.2.2,u.2.2⟩
  have J:decide ((R b).1=0)=true:=by simpa using W
  have d2:decide ((R c).1=0)=false:=by simpa using h2
  simp only[J,d2];have HP:=az (show ¬((R b).1=0/\(R c).1=0) from λh=>h2 h.2);clear W h2 J d2;go_wp2_with fail
  go_ret;exact ab ⟨HP,rfl,i⟩
 have J:decide ((R b).1=0)=false:=by simpa using W
 simp only[J];have HP:=az (show ¬((R b).1=0/\(R c).1=0) from λh=>W h.1);clear W J;go_wp2_with fail
 go_ret;exact ab ⟨HP,rfl,i⟩
theorem xI(op a b c fb tb eb cb L nx rb nr vb:Nat)(back:Value)(R:Nat->B.V)(y:B.V)(W:a<nr)(w:World)(J:Fr w fb cb L nx rb nr back R)(hv:w.cell? ⟨vb,0,none⟩=some (Fv 86 #[]))(Y:vb<w.heap.size)(hn:Hid (∀w',w.grownBy w' none->Calls prog 86 #[dZ op a b c fb tb eb] w' λe w''=>e=.returned (vA y)/\w'.grownBy w'' none)): Calls prog 148 #[dZ op a b c fb tb eb,P0 vb] w λe w'=>e=.returned (.tuple #[])/\w.grownBy w' (some rb)/\Fr w' fb cb L nx rb nr back (B.set R a y):=by
 have G:=az J;clear J;go_in;go_wp2_with fail
 go_region_with (first|(go_at_call 86;refine(hn.out _ (by repeat (first|exact ax _ _|refine bq ?_|refine au ?_ _))).mono ?_;rintro e w1 ⟨rfl,o⟩;obtain⟨s0,s1,Z,s3,s4,s5,s6,s7⟩:=FD o;have i:Hid (w.grownBy w1 none):=an (by repeat (first|exact ax _ _|refine bq ?_|refine au ?_ _)) o;clear o)|(go_at_call 149;refine(js op a b c fb tb eb cb L nx rb nr back R y w1 (G.out.kept i.out).1 (G.out.kept i.out).2.1 W).mono ?_;rintro e w2 ⟨rfl,u,H⟩))
 all_goals
  go_wp2_with fail
  go_end0;refine⟨rfl,an (eD i.out) u,cm u (G.out.kept i.out).1 (by intro e;injection e with e;exact G.out.2.2 e),H,G.out.2.2⟩
theorem zf(op a b c fb tb eb cb L nx rb nr G vb:Nat)(back:Value)(R:Nat->B.V)(y:B.V)(ha:a<nr)(w:World)(W:Fr w fb cb L nx rb nr back R)(hw:w.cell? ⟨G,0,none⟩=some (Fv 148 #[P0 vb]))(hv:w.cell? ⟨vb,0,none⟩=some (Fv 86 #[]))(Z:G<w.heap.size)(H:vb<w.heap.size)(hn:Hid (∀w',w.grownBy w' none->Calls prog 86 #[dZ op a b c fb tb eb] w' λe w''=>e=.returned (vA y)/\w'.grownBy w'' none)): Calls prog 163 #[dZ op a b c fb tb eb,P0 G] w λe w'=>e=.returned (.int .i64 0)/\w.grownBy w' (some rb)/\Fr w' fb cb L nx rb nr back (B.set R a y):=by
 have KF:Hid (Fr w fb cb L nx rb nr back R):=W;go_in;go_wp2_with fail
 refine(xI op a b c fb tb eb cb L nx rb nr vb back R y ha _ (KF.out.kept (ah _ _ _)) (by simp[go_sem,H,hv]) (by simp;omega) (λw' Y=>hn.out w' (an (ah _ _ _) Y))).mono ?_;rintro e w1 ⟨rfl,i,o⟩;have u:=az o;have J:Hid (w.grownBy w1 (some rb)):=an (ah _ _ _) i;go_wp2_with fail
 go_ret;exact⟨rfl,J.out,u.out⟩
theorem xH(op a b c fb tb eb cb L nx rb nr vb:Nat)(back:Value)(R:Nat->B.V)(y:B.V)(W:a<nr)(w:World)(J:Fr w fb cb L nx rb nr back R)(hv:w.cell? ⟨vb,0,none⟩=some (Fv 93 #[]))(Y:vb<w.heap.size)(hn:Hid (∀w',w.grownBy w' none->Calls prog 93 #[dZ op a b c fb tb eb] w' λe w''=>e=.returned (vA y)/\w'.grownBy w'' none)): Calls prog 148 #[dZ op a b c fb tb eb,P0 vb] w λe w'=>e=.returned (.tuple #[])/\w.grownBy w' (some rb)/\Fr w' fb cb L nx rb nr back (B.set R a y):=by
 have G:=az J;clear J;go_in;go_wp2_with fail
 go_region_with (first|(go_at_call 93;refine(hn.out _ (by repeat (first|exact ax _ _|refine bq ?_|refine au ?_ _))).mono ?_;rintro e w1 ⟨rfl,o⟩;obtain⟨s0,s1,Z,s3,s4,s5,s6,s7⟩:=FD o;have i:Hid (w.grownBy w1 none):=an (by repeat (first|exact ax _ _|refine bq ?_|refine au ?_ _)) o;clear o)|(go_at_call 149;refine(js op a b c fb tb eb cb L nx rb nr back R y w1 (G.out.kept i.out).1 (G.out.kept i.out).2.1 W).mono ?_;rintro e w2 ⟨rfl,u,H⟩))
 all_goals
  go_wp2_with fail
  go_end0;refine⟨rfl,an (eD i.out) u,cm u (G.out.kept i.out).1 (by intro e;injection e with e;exact G.out.2.2 e),H,G.out.2.2⟩
theorem ze(op a b c fb tb eb cb L nx rb nr G vb:Nat)(back:Value)(R:Nat->B.V)(y:B.V)(ha:a<nr)(w:World)(W:Fr w fb cb L nx rb nr back R)(hw:w.cell? ⟨G,0,none⟩=some (Fv 148 #[P0 vb]))(hv:w.cell? ⟨vb,0,none⟩=some (Fv 93 #[]))(Z:G<w.heap.size)(H:vb<w.heap.size)(hn:Hid (∀w',w.grownBy w' none->Calls prog 93 #[dZ op a b c fb tb eb] w' λe w''=>e=.returned (vA y)/\w'.grownBy w'' none)): Calls prog 163 #[dZ op a b c fb tb eb,P0 G] w λe w'=>e=.returned (.int .i64 0)/\w.grownBy w' (some rb)/\Fr w' fb cb L nx rb nr back (B.set R a y):=by
 have KF:Hid (Fr w fb cb L nx rb nr back R):=W;go_in;go_wp2_with fail
 refine(xH op a b c fb tb eb cb L nx rb nr vb back R y ha _ (KF.out.kept (ah _ _ _)) (by simp[go_sem,H,hv]) (by simp;omega) (λw' Y=>hn.out w' (an (ah _ _ _) Y))).mono ?_;rintro e w1 ⟨rfl,i,o⟩;have u:=az o;have J:Hid (w.grownBy w1 (some rb)):=an (ah _ _ _) i;go_wp2_with fail
 go_ret;exact⟨rfl,J.out,u.out⟩
theorem vE(op a b c fb tb eb cb L nx rb nr vb:Nat)(back:Value)(R:Nat->B.V)(y:B.V)(W:a<nr)(w:World)(J:Fr w fb cb L nx rb nr back R)(hv:w.cell? ⟨vb,0,none⟩=some (Fv 117 #[]))(Y:vb<w.heap.size)(hn:Hid (∀w',w.grownBy w' none->Calls prog 117 #[dZ op a b c fb tb eb] w' λe w''=>e=.returned (vA y)/\w'.grownBy w'' none)): Calls prog 148 #[dZ op a b c fb tb eb,P0 vb] w λe w'=>e=.returned (.tuple #[])/\w.grownBy w' (some rb)/\Fr w' fb cb L nx rb nr back (B.set R a y):=by
 have G:=az J;clear J;go_in;go_wp2_with fail
 go_region_with (first|(go_at_call 117;refine(hn.out _ (by repeat (first|exact ax _ _|refine bq ?_|refine au ?_ _))).mono ?_;rintro e w1 ⟨rfl,o⟩;obtain⟨s0,s1,Z,s3,s4,s5,s6,s7⟩:=FD o;have i:Hid (w.grownBy w1 none):=an (by repeat (first|exact ax _ _|refine bq ?_|refine au ?_ _)) o;clear o)|(go_at_call 149;refine(js op a b c fb tb eb cb L nx rb nr back R y w1 (G.out.kept i.out).1 (G.out.kept i.out).2.1 W).mono ?_;rintro e w2 ⟨rfl,u,H⟩))
 all_goals
  go_wp2_with fail
  go_end0;refine⟨rfl,an (eD i.out) u,cm u (G.out.kept i.out).1 (by intro e;injection e with e;exact G.out.2.2 e),H,G.out.2.2⟩
theorem xY(op a b c fb tb eb cb L nx rb nr G vb:Nat)(back:Value)(R:Nat->B.V)(y:B.V)(ha:a<nr)(w:World)(W:Fr w fb cb L nx rb nr back R)(hw:w.cell? ⟨G,0,none⟩=some (Fv 148 #[P0 vb]))(hv:w.cell? ⟨vb,0,none⟩=some (Fv 117 #[]))(Z:G<w.heap.size)(H:vb<w.heap.size)(hn:Hid (∀w',w.grownBy w' none->Calls prog 117 #[dZ op a b c fb tb eb] w' λe w''=>e=.returned (vA y)/\w'.grownBy w'' none)): Calls prog 163 #[dZ op a b c fb tb eb,P0 G] w λe w'=>e=.returned (.int .i64 0)/\w.grownBy w' (some rb)/\Fr w' fb cb L nx rb nr back (B.set R a y):=by
 have KF:Hid (Fr w fb cb L nx rb nr back R):=W;go_in;go_wp2_with fail
 refine(vE op a b c fb tb eb cb L nx rb nr vb back R y ha _ (KF.out.kept (ah _ _ _)) (by simp[go_sem,H,hv]) (by simp;omega) (λw' Y=>hn.out w' (an (ah _ _ _) Y))).mono ?_;rintro e w1 ⟨rfl,i,o⟩;have u:=az o;have J:Hid (w.grownBy w1 (some rb)):=an (ah _ _ _) i;go_wp2_with fail
 go_ret;exact⟨rfl,J.out,u.out⟩
theorem GC{u H:Nat}(hF:(u=98/\H=112)\/(u=86/\H=113)\/(u=98/\H=114)\/(u=98/\H=115)\/(u=86/\H=116))(op a b c fb tb eb v1 v2:Nat)(y:B.V)(R:Int->World->Prop)(w:World)(c1:w.cell? ⟨v1,0,none⟩=some (Fv u #[]))(c2:w.cell? ⟨v2,0,none⟩=some (Fv H #[]))(H1:∀w1,w.grownBy w1 none->Calls prog u #[dZ op a b c fb tb eb] w1 λe w'=>e=.returned (vA y)/\w1.grownBy w' none)(H2:y.1=0->∀w1,w.grownBy w1 none->Calls prog H #[dZ op a b c fb tb eb,.int .i64 y.2] w1 λe w'=>∃why:Int,e=.returned (.int .i64 why)/\R why w')(H3:y.1≠0->∀w1,w.grownBy w1 none->R 1 w1): Calls prog 167 #[dZ op a b c fb tb eb,P0 v1,P0 v2] w λe w'=>∃why:Int,e=.returned (.int .i64 why)/\R why w':=by
 rcases hF with⟨rfl,rfl⟩|⟨rfl,rfl⟩|⟨rfl,rfl⟩|⟨rfl,rfl⟩|⟨rfl,rfl⟩
 all_goals
  have a1:=az H1;have a2:=az H2;have a3:=az H3;have a8:=gW c1;have Y:=gW c2;clear H1 H2 H3;go_in;go_wp2_with fail
  have a6:=az (jf w op a b c fb tb eb);have a0:=az (ah w (.cells #[.int .u8 (op:Int),.int .u8 (a:Int),.int .u8 (b:Int),.int .u8 (c:Int),P0 fb,P0 tb,P0 eb] 186) none);generalize hW:w.alloc (.cells #[.int .u8 (op:Int),.int .u8 (a:Int),.int .u8 (b:Int),.int .u8 (c:Int),P0 fb,P0 tb,P0 eb] 186)=w1 at *;clear hW;refine(a1.out w1 a0.out).mono ?_;rintro e w2 ⟨rfl,G⟩;have a4:=az (an a0.out G);have a5:=az (dp G a6.out);clear G;go_wp2_with fail
  refine(ft y _).mono ?_;rintro e w3 ⟨rfl,o⟩;have i:=az (an a4.out o);have W:=az (dp o a5.out);clear o;by_cases J:y.1=0
  .have hd:decide (y.1=0)=true:=by simpa using J
   simp only[hd];have H0:=az J;clear J hd;obtain⟨x0,x1,x2,x3,x4,x5,x6⟩:=fk W.out;have d2:=(bh i.out (a:=⟨v2,0,none⟩) Y).1.trans c2;go_wp2_with fail
   refine(a2.out H0.out w3 i.out).mono ?_;rintro e w4 ⟨why,rfl,Z⟩;have a7:=az Z;clear Z;go_wp2_with fail
   go_ret;exact⟨why,rfl,a7.out⟩
  have hd:decide (y.1=0)=false:=by simpa using J
  simp only[hd];have H0:=az J;clear J hd;go_wp2_with fail
  go_ret;exact⟨1,rfl,a3.out H0.out w3 i.out⟩
theorem Ft(op a b c fb tb eb u:Nat)(R:World->Prop)(w:World)(hw:w.cell? ⟨u,0,none⟩=some (Fv 106 #[]))(H:∀w1,w.grownBy w1 none->Calls prog 106 #[dZ op a b c fb tb eb] w1 λe w'=>e=.returned (.tuple #[])/\R w'): Calls prog 163 #[dZ op a b c fb tb eb,P0 u] w λe w'=>e=.returned (.int .i64 0)/\R w':=by
 have y:=az H;have G:=gW hw;go_in;go_wp2_with fail
 refine(y.out _ (ah _ _ _)).mono ?_;rintro e w2 ⟨rfl,i⟩;have o:=az i;go_wp2_with fail
 go_ret;exact⟨rfl,o.out⟩
theorem Fs(op a b c fb tb eb u:Nat)(R:World->Prop)(w:World)(hw:w.cell? ⟨u,0,none⟩=some (Fv 109 #[]))(H:∀w1,w.grownBy w1 none->Calls prog 109 #[dZ op a b c fb tb eb] w1 λe w'=>e=.returned (.tuple #[])/\R w'): Calls prog 163 #[dZ op a b c fb tb eb,P0 u] w λe w'=>e=.returned (.int .i64 0)/\R w':=by
 have y:=az H;have G:=gW hw;go_in;go_wp2_with fail
 refine(y.out _ (ah _ _ _)).mono ?_;rintro e w2 ⟨rfl,i⟩;have o:=az i;go_wp2_with fail
 go_ret;exact⟨rfl,o.out⟩
theorem Gp(op a b c fb tb eb:Nat)(R:World->Prop)(w:World)(le:eb<w.heap.size)(H:∀w1,w.grownBy w1 none->Calls prog 110 #[Pt eb 32,P0 tb] w1 λe w'=>e=.returned (.tuple #[])/\R w'): Calls prog 109 #[dZ op a b c fb tb eb] w λe w'=>e=.returned (.tuple #[])/\R w':=by
 have W:=az H;go_in;go_wp2_with fail
 have i:=az (jf w op a b c fb tb eb);have o:=az (ah w (.cells #[.int .u8 (op:Int),.int .u8 (a:Int),.int .u8 (b:Int),.int .u8 (c:Int),P0 fb,P0 tb,P0 eb] 186) none);generalize J:w.alloc (.cells #[.int .u8 (op:Int),.int .u8 (a:Int),.int .u8 (b:Int),.int .u8 (c:Int),P0 fb,P0 tb,P0 eb] 186)=w1 at *;obtain⟨Z,Y,x2,x3,x4,x5,x6⟩:=fk i.out;go_region_with (go_at_call 110;refine(W.out w1.drew (bq o.out)).mono ?_;rintro e w2 ⟨rfl,u⟩;have y:=az u;clear u)
 all_goals
  go_wp2_with fail
  go_end0;exact⟨rfl,y.out⟩
theorem JM(op a b c fb tb eb:Nat)(x:Int)(R:World->Prop)(w:World)(H:∀w1,w.grownBy w1 none->Calls prog 173 #[P0 eb,.int .i64 1,P0 tb,.int .i64 x] w1 λe w'=>e=.returned (.tuple #[])/\R w'): Calls prog 115 #[dZ op a b c fb tb eb,.int .i64 x] w λe w'=>e=.returned (.int .i64 0)/\R w':=by
 have u:=az H;go_in;go_wp2_with fail
 refine(u.out _ (ah _ _ _)).mono ?_;rintro e w2 ⟨rfl,i⟩;have o:=az i;go_wp2_with fail
 go_ret;exact⟨rfl,o.out⟩
theorem KM(op a b c fb tb eb:Nat)(y:B.V)(R:World->Prop)(w:World)(H1:∀w1,w.grownBy w1 none->Calls prog 98 #[dZ op a b c fb tb eb] w1 λe w'=>e=.returned (vA y)/\w1.grownBy w' none)(H:∀w1,w.grownBy w1 none->Calls prog 107 #[P0 tb,vA y] w1 λe w'=>e=.returned (.tuple #[])/\R w'/\∀k,w.heap.size<=k->k<w1.heap.size->w'.heap[k]? = w1.heap[k]?): Calls prog 106 #[dZ op a b c fb tb eb] w λe w'=>e=.returned (.tuple #[])/\R w':=by
 have Y:=az H1;have HH:=az H;go_in;go_wp2_with fail
 have u:=az (jf w op a b c fb tb eb);have J:=az (ah w (.cells #[.int .u8 (op:Int),.int .u8 (a:Int),.int .u8 (b:Int),.int .u8 (c:Int),P0 fb,P0 tb,P0 eb] 186) none);generalize hW:w.alloc (.cells #[.int .u8 (op:Int),.int .u8 (a:Int),.int .u8 (b:Int),.int .u8 (c:Int),P0 fb,P0 tb,P0 eb] 186)=w1 at *;go_region_held3 (λw'=>w'.cell? ⟨w.heap.size,0,none⟩=some (.int .u8 (op:Int))/\w'.cell? ⟨w.heap.size,1,none⟩=some (.int .u8 (a:Int))/\w'.cell? ⟨w.heap.size,2,none⟩=some (.int .u8 (b:Int))/\w'.cell? ⟨w.heap.size,3,none⟩=some (.int .u8 (c:Int))/\w'.cell? ⟨w.heap.size,4,none⟩=some (P0 fb)/\w'.cell? ⟨w.heap.size,5,none⟩=some (P0 tb)/\w'.cell? ⟨w.heap.size,6,none⟩=some (P0 eb)) (first|exact fk u.out|exact fk i.out|exact fk Z.out) (first|(go_at_call 98;refine(Y.out w1.drew (bq J.out)).mono ?_;rintro e w2 ⟨rfl,o⟩;have a0:Hid (w.grownBy w2 none):=an (bq J.out) o;have i:=az (dp o (show w1.drew.heap[w.heap.size]? = _ from u.out));clear o)|(go_at_call 107;refine(HH.out w2 a0.out).mono ?_;rintro e w3 ⟨rfl,W,G⟩;have a1:=az W;have Z:=az ((G w.heap.size (bj _) (bz i.out)).trans i.out);clear W G))
 all_goals
  go_wp2_with fail
  go_end0;exact⟨rfl,a1.out⟩
end
namespace F
structure In(s:Pl) (t:Nat):Prop where
 ht:fe s t
 hi:cr s t<(s.T t).fr.length
abbrev bw(s:Pl)(t:Nat):gY:=de s t (cr s t)
abbrev m8(p:dz)(s:Pl)(g:eE)(t:Nat)(k:Nat×Nat×Nat×Nat):Value:=dZ k.1 k.2.1 k.2.2.1 k.2.2.2 (g.fb t (cr s t)) (g.tb t) p.eb
section
variable {p : dz} {s : Pl} {g : eE} {w : World} {t : Nat} (h : dQ p s g w) (hI : In s t)
include h hI
theorem In.set{w':World}{a:Nat}{v:B.V}(e:w.grownBy w' (some (g.rb t (cr s t))))(i:Fr w' (g.fb t (cr s t)) (p.cb (bw s t).f) (p.len (bw s t).f) (bw s t).nx (g.rb t (cr s t)) (p.rg (bw s t).f) (wj p g t (cr s t) (bw s t).bk) (B.set (bw s t).R a v)):Tr p s g w (s.dx t (cr s t) ((bw s t).set a v)) g w':=
 LX (f:=(bw s t).set a v) h hI.ht hI.hi rfl rfl i (jg e (ab rfl))
theorem In.next{w':World}{y:Nat}(e:w.grownBy w' (some (g.fb t (cr s t))))(i:Fr w' (g.fb t (cr s t)) (p.cb (bw s t).f) (p.len (bw s t).f) y (g.rb t (cr s t)) (p.rg (bw s t).f) (wj p g t (cr s t) (bw s t).bk) (bw s t).R):Tr p s g w (s.dx t (cr s t) { bw s t with nx:=y }) g w':=
 LX (f:={ bw s t with nx:=y }) h hI.ht hI.hi rfl rfl i (jg e (ag rfl))
theorem In.fr:Fr w (g.fb t (cr s t)) (p.cb (bw s t).f) (p.len (bw s t).f) (bw s t).nx (g.rb t (cr s t)) (p.rg (bw s t).f) (wj p g t (cr s t) (bw s t).bk) (bw s t).R:=h.Fr hI.ht hI.hi
theorem In.a(op a b c:Nat)(tb eb:Nat)(o:a<p.rg (bw s t).f):∀w1,w.grownBy w1 none->Calls prog 98 #[dZ op a b c (g.fb t (cr s t)) tb eb] w1 λe w'=>e=.returned (vA ((bw s t).R a))/\w1.grownBy w' none:=λw1 u=>by
 have i:=(h.kept u).Fr hI.ht hI.hi;exact As op a b c _ tb eb _ _ _ _ _ _ _ w1 i.1 i.2.1 o
theorem In.b(op a b c:Nat)(tb eb:Nat)(o:b<p.rg (bw s t).f):∀w1,w.grownBy w1 none->Calls prog 86 #[dZ op a b c (g.fb t (cr s t)) tb eb] w1 λe w'=>e=.returned (vA ((bw s t).R b))/\w1.grownBy w' none:=λw1 u=>by
 have i:=(h.kept u).Fr hI.ht hI.hi;exact pO op a b c _ tb eb _ _ _ _ _ _ _ w1 i.1 i.2.1 o
theorem In.c(op a b c:Nat)(tb eb:Nat)(o:c<p.rg (bw s t).f):∀w1,w.grownBy w1 none->Calls prog 94 #[dZ op a b c (g.fb t (cr s t)) tb eb] w1 λe w'=>e=.returned (vA ((bw s t).R c))/\w1.grownBy w' none:=λw1 u=>by
 have i:=(h.kept u).Fr hI.ht hI.hi;exact qJ op a b c _ tb eb _ _ _ _ _ _ _ w1 i.1 i.2.1 o
end
theorem PW.box{p:dz}(hP:PW p){w:World}(hX:Fix p w){j:Nat}(i:j<32){v:Value}{T:TypeId}(e:(lQ p.ac).getD j (undef,0)=(v,T)):w.cell? ⟨p.ac+j,0,none⟩=some v/\w.heap[p.ac+j]? = some (.cells #[v] T (0,0)):=by
 have:=hP.bx w hX j i;rw[e]at this;exact this
def oO(s:Pl)(t a:Nat)(x:Int):Pl:=s.dx t (cr s t) ((bw s t).set a (0,x))
theorem i0{p:dz}{s:Pl}{g:eE}{w:World}{t op a b c:Nat}(h:dQ p s g w)(hP:PW p)(hI:In s t)(y:a<p.rg (bw s t).f)(G:b<256)(u:c<256): Calls prog 163 #[m8 p s g t (op,a,b,c),P0 (p.ac+1)] w λe w'=>e=.returned (.int .i64 0)/\Tr p s g w (oO s t a (B.wide b c)) g w':=by
 have i:=hP.box h.fix (j:=1) (by omega) rfl;have o:=hP.box h.fix (j:=0) (by omega) rfl;refine(D2 op a b c _ _ _ _ _ _ _ _ (p.ac+1) p.ac _ _ G u y w (In.fr h hI) (bz i.2) i.1 o.1 (bz o.2)).mono ?_;rintro e w' ⟨rfl,k1,k2⟩;exact⟨rfl,In.set h hI k1 k2⟩
theorem i1{p:dz}{s:Pl}{g:eE}{w:World}{t op a b c:Nat}(h:dQ p s g w)(hP:PW p)(hI:In s t)(u:a<p.rg (bw s t).f)(y:b<p.rg (bw s t).f): Calls prog 163 #[m8 p s g t (op,a,b,c),P0 (p.ac+3)] w λe w'=>e=.returned (.int .i64 0)/\Tr p s g w (s.dx t (cr s t) ((bw s t).set a ((bw s t).R b))) g w':=by
 have i:=hP.box h.fix (j:=3) (by omega) rfl;have o:=hP.box h.fix (j:=2) (by omega) rfl;refine(zf op a b c _ _ _ _ _ _ _ _ (p.ac+3) (p.ac+2) _ _ _ u w (In.fr h hI) i.1 o.1 (bz i.2) (bz o.2) (In.b h hI op a b c _ _ y)).mono ?_;rintro e w' ⟨rfl,k1,k2⟩;exact⟨rfl,In.set h hI k1 k2⟩
theorem i6{p:dz}{s:Pl}{g:eE}{w:World}{t op a b c:Nat}(h:dQ p s g w)(hP:PW p)(hI:In s t)(y:a<p.rg (bw s t).f)(G:b<p.rg (bw s t).f)(u:c<p.rg (bw s t).f): Calls prog 163 #[m8 p s g t (op,a,b,c),P0 (p.ac+9)] w λe w'=>e=.returned (.int .i64 0)/\Tr p s g w (oO s t a (if(bw s t).R b=(bw s t).R c then 1 else 0)) g w':=by
 have i:=hP.box h.fix (j:=9) (by omega) rfl;have o:=hP.box h.fix (j:=8) (by omega) rfl;refine(ze op a b c _ _ _ _ _ _ _ _ (p.ac+9) (p.ac+8) _ _ _ y w (In.fr h hI) i.1 o.1 (bz i.2) (bz o.2) (λw1 H=>Cp op a b c _ _ _ _ _ _ _ _ _ _ G u w1 (In.fr (h.kept H) hI))).mono ?_;rintro e w' ⟨rfl,k1,k2⟩;exact⟨rfl,In.set h hI k1 k2⟩
theorem i7{p:dz}{s:Pl}{g:eE}{w:World}{t op a b c:Nat}(h:dQ p s g w)(hP:PW p)(hI:In s t)(y:b<256)(u:c<256): Calls prog 163 #[m8 p s g t (op,a,b,c),P0 (p.ac+11)] w λe w'=>e=.returned (.int .i64 0)/\Tr p s g w (s.dx t (cr s t) { bw s t with nx:=256*b+c }) g w':=by
 have i:=hP.box h.fix (j:=11) (by omega) rfl;have o:=hP.box h.fix (j:=10) (by omega) rfl;refine(y9 op a b c _ _ _ _ _ _ _ _ (p.ac+11) (p.ac+10) _ _ true (256*b+c) rfl y u w (In.fr h hI) i.1 o.1 (bz i.2) (bz o.2) (λw1 _=>BZ op a b c _ _ _ w1)).mono ?_;rintro e w' ⟨rfl,k1,k2⟩;exact⟨rfl,In.next h hI k1 k2⟩
theorem i8{p:dz}{s:Pl}{g:eE}{w:World}{t op a b c:Nat}(h:dQ p s g w)(hP:PW p)(hI:In s t)(y:a<p.rg (bw s t).f)(G:b<256)(u:c<256): Calls prog 163 #[m8 p s g t (op,a,b,c),P0 (p.ac+13)] w λe w'=>e=.returned (.int .i64 0)/\Tr p s g w (s.dx t (cr s t) { bw s t with nx:=if(bw s t).R a=(0,0) then 256*b+c else(bw s t).nx }) g w':=by
 have i:=hP.box h.fix (j:=13) (by omega) rfl;have o:=hP.box h.fix (j:=12) (by omega) rfl;refine(yZ op a b c _ _ _ _ _ _ _ _ (p.ac+13) (p.ac+12) _ _ (decide ((bw s t).R a=(0,0))) (if(bw s t).R a=(0,0) then 256*b+c else(bw s t).nx) (by show _=_;by_cases e:(bw s t).R a=(0,0)<;>simp[e]) G u w (In.fr h hI) i.1 o.1 (bz i.2) (bz o.2) (λw1 H=>BO op a b c _ _ _ _ _ _ _ _ _ _ y w1 (In.fr (h.kept H) hI))).mono ?_;rintro e w' ⟨rfl,k1,k2⟩;exact⟨rfl,In.next h hI k1 k2⟩
def arith(o:Nat)(x y:Int):Int:=if o=2 then B.wrap (x+y) else if o=3 then B.wrap (x-y) else if o=4 then B.wrap (x*y) else pF x y
def Ek(s:Pl)(t b c:Nat):Prop:=((bw s t).R b).1=0/\((bw s t).R c).1=0
theorem i25{p:dz}{s:Pl}{g:eE}{w:World}{t o a b c:Nat}(op:Nat)(h:dQ p s g w)(hP:PW p)(hI:In s t)(H:o=2\/o=3\/o=4\/o=5)(y:a<p.rg (bw s t).f)(G:b<p.rg (bw s t).f)(u:c<p.rg (bw s t).f): Calls prog 151 #[m8 p s g t (op,a,b,c),P0 (p.ac+(o+2))] w λe w'=>(Ek s t b c/\e=.returned (.int .i64 0)/\Tr p s g w (oO s t a (arith o ((bw s t).R b).2 ((bw s t).R c).2)) g w')\/(¬Ek s t b c/\e=.returned (.int .i64 1)/\w.grownBy w' none):=by
 rcases H with rfl|rfl|rfl|rfl
 .have i:=hP.box h.fix (j:=4) (by omega) rfl;refine(D1 op a b c _ _ _ _ _ _ _ _ (p.ac+4) _ _ y G u w (In.fr h hI) i.2).mono ?_;rintro e w' (⟨k0,rfl,k1,k2⟩|⟨k0,rfl,k1⟩)
  .exact ag ⟨k0,rfl,In.set h hI k1 k2⟩
  exact ab ⟨k0,rfl,k1⟩
 .have i:=hP.box h.fix (j:=5) (by omega) rfl;refine(D0 op a b c _ _ _ _ _ _ _ _ (p.ac+5) _ _ y G u w (In.fr h hI) i.2).mono ?_;rintro e w' (⟨k0,rfl,k1,k2⟩|⟨k0,rfl,k1⟩)
  .exact ag ⟨k0,rfl,In.set h hI k1 k2⟩
  exact ab ⟨k0,rfl,k1⟩
 .have i:=hP.box h.fix (j:=6) (by omega) rfl;refine(DZ op a b c _ _ _ _ _ _ _ _ (p.ac+6) _ _ y G u w (In.fr h hI) i.2).mono ?_;rintro e w' (⟨k0,rfl,k1,k2⟩|⟨k0,rfl,k1⟩)
  .exact ag ⟨k0,rfl,In.set h hI k1 k2⟩
  exact ab ⟨k0,rfl,k1⟩
 have i:=hP.box h.fix (j:=7) (by omega) rfl;refine(DY op a b c _ _ _ _ _ _ _ _ (p.ac+7) _ _ y G u w (In.fr h hI) i.2).mono ?_;rintro e w' (⟨k0,rfl,k1,k2⟩|⟨k0,rfl,k1⟩)
 .exact ag ⟨k0,rfl,In.set h hI k1 k2⟩
 exact ab ⟨k0,rfl,k1⟩
end F
namespace F
theorem Tr.Aq{p:dz}{s s':Pl}{g g':eE}{w w1 w':World}(h:dQ p s g w)(u:Tr p s g w1 s' g' w')(k:Nat)(y:w.heap.size<=k)(e:k<w1.heap.size):w'.heap[k]? = w1.heap[k]?:=u.o.same e (λi=>by have:=h.lt i;omega)
def iy(s:Pl)(x:B.V):Nat×B.V×Bool:=if x.1=0\/s.ck x.1=0 then(0,(0,0),false) else(s.ck x.1-1,(s.M x.1).getD 0 (0,0),true)
theorem Dz(s:Pl)(g:eE)(x:B.V):pJ x (jn s g).f s.M=.tuple #[.int .i64 ((iy s x).1:Int),vA (iy s x).2.1,.bool (iy s x).2.2]:=by
 unfold pJ iy;by_cases e:x.1=0\/s.ck x.1=0
 .have i:x.1=0\/(jn s g).f.k x.1=0:=e;rw[aj e,aj i];rfl
 have i:¬(x.1=0\/(jn s g).f.k x.1=0):=e;rw[aa e,aa i];rfl
theorem Bl{p:dz}{s:Pl}{g:eE}{w:World}(h:dQ p s g w)(hP:PW p){x:B.V}(o:B.qO s.kd.on p.n x):∀w1,w.grownBy w1 none->Calls prog 162 #[P0 p.sb,vA x] w1 λe w'=>e=.returned (.tuple #[.int .i64 ((iy s x).1:Int),vA (iy s x).2.1,.bool (iy s x).2.2])/\w1.grownBy w' none:=λw1 i=>by
 refine(vI p.sb p.pb p.eb p.n x s.kd (jn s g) s.M w1 (h.kept i).S hP.n2 o).mono ?_;rintro e w' ⟨k1,rfl⟩;exact⟨by rw[Dz],k1⟩
theorem dQ.Gd{p:dz}{s:Pl}{g:eE}{w:World}(h:dQ p s g w)(hP:PW p):w.cell? ⟨p.eb,27,none⟩=some (P0 p.sb):=by
 rw[h.E.cell 27 (by omega)];show some (p.E0 27)=_;rw[hP.Gd]
theorem zm{s:Pl}{t:Nat}(hI:In s t):(s.T t).fr.length=cr s t+1:=by have:=hI.hi;unfold cr at *;omega
def kP(s:Pl)(t:Nat)(k:Nat×Nat×Nat×Nat):Pl:=if(iy s ((bw s t).R k.2.2.1)).2.2=true/\(s.T t).fr.length≠20 then s.push t ⟨(iy s ((bw s t).R k.2.2.1)).1,0,gh ((bw s t).R k.2.2.2) (iy s ((bw s t).R k.2.2.1)).2.1,k⟩ else s
theorem i13{p:dz}{s:Pl}{g:eE}{w:World}{t op a b c:Nat}(h:dQ p s g w)(hP:PW p)(hI:In s t)(hb:b<p.rg (bw s t).f)(Y:c<p.rg (bw s t).f)(hv:B.qO s.kd.on p.n ((bw s t).R b))(J:(s.T t).lf=none)(Z:(s.T t).fr.length<=1000)(G:(iy s ((bw s t).R b)).2.2=true->(iy s ((bw s t).R b)).1<p.nf): Calls prog 104 #[m8 p s g t (op,a,b,c)] w λe w'=>e=.returned (.int .i64 (pN (iy s ((bw s t).R b)).2.2 (s.T t).fr.length))/\∃g',Tr p s g w (kP s t (op,a,b,c)) g' w':=by
 have hl:=zm hI;refine JS op a b c (g.fb t (cr s t)) (g.tb t) p.eb p.sb (s.T t).fr.length (g.ro 12 t).2 (iy s ((bw s t).R b)).1 ((bw s t).R b) ((bw s t).R c) (iy s ((bw s t).R b)).2.1 (iy s ((bw s t).R b)).2.2 (g.ro 12 t).1 (λw'=>∃g',Tr p s g w (kP s t (op,a,b,c)) g' w') w (In.b h hI op a b c _ _ hb) (Bl h hP hv) (In.c h hI op a b c _ _ Y) ?_ ?_ (h.Gd hP) ?_
 .intro u H w1 i;have o:=DF (k:=.func 149) (ka:=#[dZ op a b c (g.fb t (cr s t)) (g.tb t) p.eb]) (kc:=#[]) (op,a,b,c) ((bw s t).R c) (iy s ((bw s t).R b)).2.1 (h.kept i) hP hI.ht J (G u) Z (by
   unfold wj;rw[aa (by omega),hl];rfl)
  refine o.mono ?_;rintro e w' ⟨rfl,fb,rb,r,W⟩;refine⟨rfl,⟨g.push t (s.T t).fr.length fb rb r,?_⟩,W.Aq h⟩;unfold kP;rw[aj ⟨u,H⟩];exact W.ahead i
 .intro w1 i y;refine⟨g,?_⟩;unfold kP;rw[aa (λe=>y.elim (λh=>by rw[h]at e;exact ch e.1 (by decide)) e.2)];exact(Tr.refl h).kept i
 exact(h.tk hI.ht).cell 1 (by omega)
theorem vS(s:Pl)(f:Nat)(u v:B.V){t:Nat}(ht:fe s t):(s.born f u v).T t=s.T t:=by
 have e:t≠s.nt+1:=by have:=ht.2;omega
 unfold Pl.born;rw[oh _ e];show((s.more.push (s.nt+1) _).T t)=_;unfold Pl.push;rw[dP _ _ e];exact mi s e
theorem oj(s:Pl)(f:Nat)(u v:B.V):(s.born f u v).nt=s.nt+1:=iX _ _ _ _
def Ci(p:dz)(s:Pl)(t:Nat)(k:Nat×Nat×Nat×Nat):Pl:=if(iy s ((bw s t).R k.2.2.1)).2.2=true/\s.lv.length≠p.mt then(s.born (iy s ((bw s t).R k.2.2.1)).1 ((bw s t).R k.2.2.2) (iy s ((bw s t).R k.2.2.1)).2.1).dx t (cr s t) ((bw s t).set k.2.1 (0,((s.nt+1:Nat):Int))) else s
theorem i14{p:dz}{s:Pl}{g:eE}{w:World}{t op a b c:Nat}(h:dQ p s g w)(hP:PW p)(hI:In s t)(ha:a<p.rg (bw s t).f)(hW:LW s)(J:WW p s)(a1:(s.T t).lf=none)(Z:(s.T t).wh=none)(hm:(s.T t).fr.length<=1000)(Y:t∈s.lv)(G:s.lv.Nodup)(a0:∀u,u∈s.lv->fe s u)(ho:s.out.length=s.nt)(hk:s.kp.length<=1000000)(W:s.ev.length<=100000)(y:cr s t≠0->(bw s t).bk.2.1<p.rg (de s t (cr s t-1)).f): Calls prog 163 #[m8 p s g t (op,a,b,c),P0 (p.ac+18)] w λe w'=>e=.returned (.int .i64 0)/\∃g',Tr p s g w (s.back t ((bw s t).R a)) g' w':=by
 refine Ft op a b c _ _ _ (p.ac+18) _ w (hP.box h.fix (j:=18) (by omega) rfl).1 (λw1 i=>?_);refine KM op a b c _ _ _ ((bw s t).R a) _ w1 (λw2 o=>In.a h hI op a b c _ _ ha w2 (an i o)) (λw2 o=>?_)
 refine(uC ((bw s t).R a) (h.kept (an i o)) hW J hI.ht a1 Z (λe=>by have:=hI.hi;rw[e]at this;exact Nat.not_lt_zero _ this) hm Y G a0 ho hk W y).mono ?_;rintro e w' ⟨rfl,g',h3⟩;exact⟨rfl,⟨g',h3.ahead (an i o)⟩,h3.Aq (h.kept i)⟩
theorem i16{p:dz}{s:Pl}{g:eE}{w:World}{t op a b c:Nat}(h:dQ p s g w)(hP:PW p)(hI:In s t)(H:LW s)(u:(s.T t).wh=none): Calls prog 163 #[m8 p s g t (op,a,b,c),P0 (p.ac+19)] w λe w'=>e=.returned (.int .i64 0)/\∃g',Tr p s g w (s.dV 2 0 t) g' w':=by
 refine Fs op a b c _ _ _ (p.ac+19) _ w (hP.box h.fix (j:=19) (by omega) rfl).1 (λw1 i=>?_);refine Gp op a b c _ _ _ _ w1 (h.kept i).E.lt (λw2 o=>?_);refine(xA (x:=2) (y:=0) (h.kept (an i o)) H (ag ⟨rfl,rfl⟩) hI.ht (by omega) (by rw[u];intro e;cases e)).mono ?_;rintro e w' ⟨rfl,r,J⟩;exact⟨rfl,_,J.ahead (an i o)⟩
def iY(s:Pl)(t a:Nat):Int×Pl:=if((bw s t).R a).1=0 then(0,s.told 1 t ((bw s t).R a).2) else(1,s)
theorem i20{p:dz}{s:Pl}{g:eE}{w:World}{t op a b c:Nat}(h:dQ p s g w)(hP:PW p)(hI:In s t)(J:a<p.rg (bw s t).f)(y:s.ev.length<=100000): Calls prog 167 #[m8 p s g t (op,a,b,c),P0 (p.ac+26),P0 (p.ac+27)] w λe w'=>∃why:Int,e=.returned (.int .i64 why)/\why=(iY s t a).1/\∃g',Tr p s g w (iY s t a).2 g' w':=by
 refine GC (f1:=98) (f2:=115) (by omega) op a b c _ _ _ (p.ac+26) (p.ac+27) ((bw s t).R a) (λwhy w'=>why=(iY s t a).1/\∃g',Tr p s g w (iY s t a).2 g' w') w (hP.box h.fix (j:=26) (by omega) rfl).1 (hP.box h.fix (j:=27) (by omega) rfl).1 (In.a h hI op a b c _ _ J) (λu w1 i=>?_) (λu w1 i=>?_)
 .refine(JM op a b c _ _ _ ((bw s t).R a).2 (λw'=>∃g',Tr p s g w (iY s t a).2 g' w') w1 (λw2 o=>?_)).mono ?_
  .refine(B4 1 ((bw s t).R a).2 (h.kept (an i o)) hI.ht y).mono ?_;rintro e w' ⟨rfl,r,G⟩;refine⟨rfl,g.at 9 0 r,?_⟩;unfold iY;rw[aj u];exact G.ahead (an i o)
  rintro e w' ⟨rfl,G⟩;exact⟨0,rfl,by unfold iY;rw[aj u],G⟩
 unfold iY;rw[aa u];exact⟨rfl,g,(Tr.refl h).kept i⟩
end F
section
def B.iz(c t:Int):Int:=if t<=0 then c else if t<=9223372036854775807-c then c+t else 9223372036854775807
theorem B.vU{c t:Int}(e:0<=c)(i:c<=9223372036854775807):0<=B.iz c t/\B.iz c t<=9223372036854775807:=by
 unfold B.iz;split
 .omega
 split<;>omega
theorem BB(eb:Nat)(c t:Int)(w:World)(h:w.cell? ⟨eb,28,none⟩=some (.int .i64 c))(Z:0<=c)(Y:c<=9223372036854775807): Calls prog 64 #[P0 eb,.int .i64 t] w λe w'=>e=.returned (.int .i64 (B.iz c t))/\w'=w:=by
 generalize J:B.iz c t=y;have o:=az J;have W:IntKind.i64.wrap (9223372036854775807-c)=9223372036854775807-c:=by simp[IntKind.wrap,IntKind.bits,IntKind.signed];omega
 by_cases ht:t<0
 .have i:y=c:=by rw[<-o.out];unfold B.iz;rw[aj (by omega)]
  subst i
  have u:¬(9223372036854775807-y<0):=by omega
  go_in;go_wp2_with fail
  go_ret;exact⟨rfl,rfl⟩
 by_cases H:t<=9223372036854775807-c
 .have i:c+t=y:=by
   rw[<-o.out];unfold B.iz
   by_cases h:t<=0
   .rw[aj h];omega
   rw[aa h,aj H]
  have u:¬(9223372036854775807-c<t):=by omega
  have G:IntKind.i64.wrap (c+t)=c+t:=by simp[IntKind.wrap,IntKind.bits,IntKind.signed];omega
  go_in;go_wp2_with fail
  go_ret;exact⟨by rw[<-i];rfl,rfl⟩
 have i:c+(9223372036854775807-c)=y:=by
  rw[<-o.out];unfold B.iz
  rw[aa (by omega),aa H];omega
 have u:9223372036854775807-c<t:=by omega
 go_in;go_wp2_with fail
 go_ret;exact⟨by rw[<-i];rfl,rfl⟩
theorem EO(op a b c fb tb eb:Nat)(x:Int)(w:World)(h:w.cell? ⟨eb,28,none⟩=some (.int .i64 x))(le:eb<w.heap.size): Calls prog 117 #[dZ op a b c fb tb eb] w λe w'=>e=.returned (vA (0,x))/\w.grownBy w' none:=by
 have i:eb<w.heap.size+1:=by omega
 go_in;go_wp2_with fail
 refine(fH x _).mono ?_;rintro e w2 ⟨rfl,rfl⟩;go_wp2_with fail
 refine da (v:=vA (0,x)) (by simp[results,results117,go_sem]) rfl ⟨rfl,?_⟩;repeat (first|exact ax _ _|refine au ?_ _|refine bp ?_ (ab (by simp)) _)
end
namespace F
theorem i22{p:dz}{s:Pl}{g:eE}{w:World}{t op a b c:Nat}(h:dQ p s g w)(hP:PW p)(hI:In s t)(y:a<p.rg (bw s t).f): Calls prog 163 #[m8 p s g t (op,a,b,c),P0 (p.ac+31)] w λe w'=>e=.returned (.int .i64 0)/\Tr p s g w (oO s t a s.eY) g w':=by
 have i:=hP.box h.fix (j:=31) (by omega) rfl;have u:=hP.box h.fix (j:=30) (by omega) rfl;refine(xY op a b c _ _ _ _ _ _ _ _ (p.ac+31) (p.ac+30) _ _ _ y w (In.fr h hI) i.1 u.1 (bz i.2) (bz u.2) (λw1 o=>EO op a b c _ _ p.eb s.eY w1 ((h.kept o).E.cell 28 (by omega)) (h.kept o).E.lt)).mono ?_;rintro e w' ⟨rfl,k1,k2⟩;exact⟨rfl,In.set h hI k1 k2⟩
def Gb(s:Pl)(z:Int):Option Nat:=s.lv.find? (λu=>(u:Int) == z)
def LU(s:Pl)(z:Int):Bool:=decide (1<=z/\z<=(s.nt:Int))
def vR(s:Pl)(t a:Nat):Int×Pl:=if((bw s t).R a).1=0 then(if LU s ((bw s t).R a).2=true then(0,match Gb s ((bw s t).R a).2 with|some u=>s.leave u (0,-100) 4 0|none=>s) else(6,s)) else(1,s)
def yY(s:Pl)(t:Nat)(k:Nat×Nat×Nat×Nat):Int×Pl:=
 if((bw s t).R k.2.2.1).1=0 then
  (if LU s ((bw s t).R k.2.2.1).2=true/\((bw s t).R k.2.2.1).2≠(t:Int) then(0,match Gb s ((bw s t).R k.2.2.1).2 with|some u=>s.wait 5 u t k|none=>s.dx t (cr s t) ((bw s t).set k.2.1 (s.out.getD (((bw s t).R k.2.2.1).2.toNat-1) (0,0)))) else(6,s)) else(1,s)
def oT.tl(v:oT)(u:Int):oT:={ v with iL:=u }
def LR(s:Pl)(u:Int):Nat:=(s.q 3 0).findIdx (λa=>decide (u<(s.T a).iL))
def Pl.Cl(s:Pl)(t:Nat)(u:Int):Pl:=s.dv t ((s.T t).tl u)
def Pl.IZ(s:Pl)(t:Nat)(u:Int):Pl:=(s.Cl t u).into 3 0 t ((s.q 3 0).take (LR (s.Cl t u) u)++t :: (s.q 3 0).drop (LR (s.Cl t u) u))
def yv(s:Pl)(t a:Nat):Int×Pl:=if((bw s t).R a).1=0 then(0,s.IZ t (B.iz s.eY ((bw s t).R a).2)) else(1,s)
end F
section
theorem AO(eb:Nat)(z:Int)(w:World)(h:z<0\/4<=z):Calls prog 130 #[P0 eb,.int .i64 z] w λe w'=>e=.returned (.tuple #[.pointer none,.bool false])/\w'=w:=by
 rcases h with h|h
 .go_in;go_wp2_with fail
  go_ret2
  exact⟨rfl,rfl⟩
 have i:¬z<0:=by omega
 go_in;go_wp2_with fail
 go_ret2
 exact⟨rfl,rfl⟩
theorem yr(eb k:Nat)(w:World)(h:k<4):Calls prog 130 #[P0 eb,.int .i64 (k:Int)] w λe w'=>e=.returned (.tuple #[Pt eb (34+k*2),.bool true])/\w'=w:=by
 have o:¬(k:Int)<0:=by omega
 have i:(k:Int)<4:=by omega
 go_in;go_wp2_with fail
 go_ret2
 exact⟨rfl,rfl⟩
end
namespace F
def Pl.yw(s:Pl)(k:Nat)(l:List Nat):Pl:={ s with jo:=λi=>if i=k then l else s.jo i }
def CB(s:Pl)(t:Nat)(k:Nat×Nat×Nat×Nat):Int×Pl:=
 if((bw s t).R k.2.2.1).1=0 then
  (if 0<=((bw s t).R k.2.2.1).2/\((bw s t).R k.2.2.1).2<4 then(0,match s.jo ((bw s t).R k.2.2.1).2.toNat with|x :: bs=>(s.yw ((bw s t).R k.2.2.1).2.toNat bs).dx t (cr s t) ((bw s t).set k.2.1 (0,(x:Int)))|[]=>s.wait 4 ((bw s t).R k.2.2.1).2.toNat t k) else(8,s)) else(1,s)
end F
end Go.Proofs.YtnjiinbhbjpfkaaGreatDoor
