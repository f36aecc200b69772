import Derived.Test.YtnjiinbhbjpfkaaGreatDoorKF
import Derived.Test.YtnjiinbhbjpfkaaGreatDoorKJ
set_option maxRecDepth 100000
set_option maxHeartbeats 0
set_option linter.all false
namespace Go.Proofs.YtnjiinbhbjpfkaaGreatDoor
open Go.RowKit Go.Proofs.Tryz
section
theorem GC{u H:Nat}(hF:(u=98/\H=112)\/(u=86/\H=113)\/(u=98/\H=114)\/(u=98/\H=115)\/(u=86/\H=116))(op a b c fb tb eb v1 v2:Nat)(y:B.V)(R:Int->World->Prop)(w:World)(c1:w.cell? ⟨v1,0,none⟩=some (Fv u #[]))(c2:w.cell? ⟨v2,0,none⟩=some (Fv H #[]))(H1:∀w1,w.grownBy w1 none->Calls prog u #[dZ op a b c fb tb eb] w1 λe w'=>e=.returned (vA y)/\w1.grownBy w' none)(H2:y.1=0->∀w1,w.grownBy w1 none->Calls prog H #[dZ op a b c fb tb eb,.int .i64 y.2] w1 λe w'=>∃why:Int,e=.returned (.int .i64 why)/\R why w')(H3:y.1≠0->∀w1,w.grownBy w1 none->R 1 w1): Calls prog 167 #[dZ op a b c fb tb eb,P0 v1,P0 v2] w λe w'=>∃why:Int,e=.returned (.int .i64 why)/\R why w':=by
 rcases hF with⟨rfl,rfl⟩|⟨rfl,rfl⟩|⟨rfl,rfl⟩|⟨rfl,rfl⟩|⟨rfl,rfl⟩
 all_goals
  have a1:=az H1;have a2:=az H2;have a3:=az H3;have a8:=gW c1;have Y:=gW c2;clear H1 H2 H3;go_in;go_wp2_with fail
  have a6:=az (jf w op a b c fb tb eb);have a0:=az (ah w (.cells #[.int .u8 (op:Int),.int .u8 (a:Int),.int .u8 (b:Int),.int .u8 (c:Int),P0 fb,P0 tb,P0 eb] 186) none);generalize hW:w.alloc (.cells #[.int .u8 (op:Int),.int .u8 (a:Int),.int .u8 (b:Int),.int .u8 (c:Int),P0 fb,P0 tb,P0 eb] 186)=w1 at *;clear hW;refine(a1.out w1 a0.out).mono ?_;rintro e w2 ⟨rfl,G⟩;have a4:=az (an a0.out G);have a5:=az (dp G a6.out);clear G;go_wp2_with fail
  refine(ft y _).mono ?_;rintro e w3 ⟨rfl,o⟩;have i:=az (an a4.out o);have W:=az (dp o a5.out);clear o;by_cases J:y.1=0
  .have hd:decide (y.1=0)=true:=by simpa using J
   simp only[hd];have H0:=az J;clear J hd;obtain⟨x0,x1,x2,x3,x4,x5,x6⟩:=fk W.out;have d2:=(bh i.out (a:=⟨v2,0,none⟩) Y).1.trans c2;go_wp2_with fail
   refine(a2.out H0.out w3 i.out).mono ?_;rintro e w4 ⟨why,rfl,Z⟩;have a7:=az Z;clear Z;go_wp2_with fail
   go_ret;exact⟨why,rfl,a7.out⟩
  have hd:decide (y.1=0)=false:=by simpa using J
  simp only[hd];have H0:=az J;clear J hd;go_wp2_with fail
  go_ret;exact⟨1,rfl,a3.out H0.out w3 i.out⟩
theorem Ft(op a b c fb tb eb u:Nat)(R:World->Prop)(w:World)(hw:w.cell? ⟨u,0,none⟩=some (Fv 106 #[]))(H:∀w1,w.grownBy w1 none->Calls prog 106 #[dZ op a b c fb tb eb] w1 λe w'=>e=.returned (.tuple #[])/\R w'): Calls prog 163 #[dZ op a b c fb tb eb,P0 u] w λe w'=>e=.returned (.int .i64 0)/\R w':=by
 have y:=az H;have G:=gW hw;go_in;go_wp2_with fail
 refine(y.out _ (ah _ _ _)).mono ?_;rintro e w2 ⟨rfl,i⟩;have o:=az i;go_wp2_with fail
 go_ret;exact⟨rfl,o.out⟩
theorem Fs(op a b c fb tb eb u:Nat)(R:World->Prop)(w:World)(hw:w.cell? ⟨u,0,none⟩=some (Fv 109 #[]))(H:∀w1,w.grownBy w1 none->Calls prog 109 #[dZ op a b c fb tb eb] w1 λe w'=>e=.returned (.tuple #[])/\R w'): Calls prog 163 #[dZ op a b c fb tb eb,P0 u] w λe w'=>e=.returned (.int .i64 0)/\R w':=by
 have y:=az H;have G:=gW hw;go_in;go_wp2_with fail
 refine(y.out _ (ah _ _ _)).mono ?_;rintro e w2 ⟨rfl,i⟩;have o:=az i;go_wp2_with fail
 go_ret;exact⟨rfl,o.out⟩
theorem Gp(op a b c fb tb eb:Nat)(R:World->Prop)(w:World)(le:eb<w.heap.size)(H:∀w1,w.grownBy w1 none->Calls prog 110 #[Pt eb 32,P0 tb] w1 λe w'=>e=.returned (.tuple #[])/\R w'): Calls prog 109 #[dZ op a b c fb tb eb] w λe w'=>e=.returned (.tuple #[])/\R w':=by
 have W:=az H;go_in;go_wp2_with fail
 have i:=az (jf w op a b c fb tb eb);have o:=az (ah w (.cells #[.int .u8 (op:Int),.int .u8 (a:Int),.int .u8 (b:Int),.int .u8 (c:Int),P0 fb,P0 tb,P0 eb] 186) none);generalize J:w.alloc (.cells #[.int .u8 (op:Int),.int .u8 (a:Int),.int .u8 (b:Int),.int .u8 (c:Int),P0 fb,P0 tb,P0 eb] 186)=w1 at *;obtain⟨Z,Y,x2,x3,x4,x5,x6⟩:=fk i.out;go_region_with (go_at_call 110;refine(W.out w1.drew (bq o.out)).mono ?_;rintro e w2 ⟨rfl,u⟩;have y:=az u;clear u)
 all_goals
  go_wp2_with fail
  go_end0;exact⟨rfl,y.out⟩
theorem JM(op a b c fb tb eb:Nat)(x:Int)(R:World->Prop)(w:World)(H:∀w1,w.grownBy w1 none->Calls prog 173 #[P0 eb,.int .i64 1,P0 tb,.int .i64 x] w1 λe w'=>e=.returned (.tuple #[])/\R w'): Calls prog 115 #[dZ op a b c fb tb eb,.int .i64 x] w λe w'=>e=.returned (.int .i64 0)/\R w':=by
 have u:=az H;go_in;go_wp2_with fail
 refine(u.out _ (ah _ _ _)).mono ?_;rintro e w2 ⟨rfl,i⟩;have o:=az i;go_wp2_with fail
 go_ret;exact⟨rfl,o.out⟩
theorem KM(op a b c fb tb eb:Nat)(y:B.V)(R:World->Prop)(w:World)(H1:∀w1,w.grownBy w1 none->Calls prog 98 #[dZ op a b c fb tb eb] w1 λe w'=>e=.returned (vA y)/\w1.grownBy w' none)(H:∀w1,w.grownBy w1 none->Calls prog 107 #[P0 tb,vA y] w1 λe w'=>e=.returned (.tuple #[])/\R w'/\∀k,w.heap.size<=k->k<w1.heap.size->w'.heap[k]? = w1.heap[k]?): Calls prog 106 #[dZ op a b c fb tb eb] w λe w'=>e=.returned (.tuple #[])/\R w':=by
 have Y:=az H1;have HH:=az H;go_in;go_wp2_with fail
 have u:=az (jf w op a b c fb tb eb);have J:=az (ah w (.cells #[.int .u8 (op:Int),.int .u8 (a:Int),.int .u8 (b:Int),.int .u8 (c:Int),P0 fb,P0 tb,P0 eb] 186) none);generalize hW:w.alloc (.cells #[.int .u8 (op:Int),.int .u8 (a:Int),.int .u8 (b:Int),.int .u8 (c:Int),P0 fb,P0 tb,P0 eb] 186)=w1 at *;go_region_held3 (λw'=>w'.cell? ⟨w.heap.size,0,none⟩=some (.int .u8 (op:Int))/\w'.cell? ⟨w.heap.size,1,none⟩=some (.int .u8 (a:Int))/\w'.cell? ⟨w.heap.size,2,none⟩=some (.int .u8 (b:Int))/\w'.cell? ⟨w.heap.size,3,none⟩=some (.int .u8 (c:Int))/\w'.cell? ⟨w.heap.size,4,none⟩=some (P0 fb)/\w'.cell? ⟨w.heap.size,5,none⟩=some (P0 tb)/\w'.cell? ⟨w.heap.size,6,none⟩=some (P0 eb)) (first|exact fk u.out|exact fk i.out|exact fk Z.out) (first|(go_at_call 98;refine(Y.out w1.drew (bq J.out)).mono ?_;rintro e w2 ⟨rfl,o⟩;have a0:Hid (w.grownBy w2 none):=an (bq J.out) o;have i:=az (dp o (show w1.drew.heap[w.heap.size]? = _ from u.out));clear o)|(go_at_call 107;refine(HH.out w2 a0.out).mono ?_;rintro e w3 ⟨rfl,W,G⟩;have a1:=az W;have Z:=az ((G w.heap.size (bj _) (bz i.out)).trans i.out);clear W G))
 all_goals
  go_wp2_with fail
  go_end0;exact⟨rfl,a1.out⟩
theorem told_none{kd:B.Kd}(v:B.V)(h:kd.cy=none):B.told kd v=kd:=by
 obtain⟨on,e,u,o,cc⟩:=kd;have i:e=none:=h;subst i;rfl
theorem AG{kd:B.Kd}{c:B.Cy}(v:B.V)(h:kd.cy=some c):B.told kd v=⟨kd.on,some ⟨(B.seen c.m c.st v).1,(B.seen c.m c.st v).2,c.nx⟩,kd.un,kd.fo,kd.cc⟩:=by
 unfold B.told;rw[h];rfl
theorem A6(op a b c fb tb eb vbx : Nat) (S : Int → Bool → World → Prop) (R : World → Prop) (w : World) (hv : w.cell? ⟨vbx, 0, none⟩ = some (Fv 100 #[]))
    (H1 : ∀ w1, w.grownBy w1 none → w1.heap[w.heap.size]? = some (lZ op a b c fb tb eb) → Calls prog 100 #[dZ op a b c fb tb eb] w1 fun e w2 => ∃ (x : Int) (o : Bool), e = .returned (.tuple #[.agg #[.int .i64 x, .int .i64 0], .bool o]) ∧ S x o w2 ∧ w2.heap[w.heap.size]? = some (lZ op a b c fb tb eb))
    (H2 : ∀ x w2 w3, S x true w2 → w2.grownBy w3 none → Calls prog 149 #[dZ op a b c fb tb eb, .agg #[.int .i64 x, .int .i64 0]] w3 fun e w' => e = .returned (.tuple #[]) ∧ R w')
    (H3 : ∀ x w2 w3, S x false w2 → w2.grownBy w3 none → Calls prog 156 #[P0 eb, P0 tb] w3 fun e w' => e = .returned (.tuple #[]) ∧ R w') :
    Calls prog 155 #[dZ op a b c fb tb eb, P0 vbx] w fun e w' => e = .returned (.tuple #[]) ∧ R w' := by
  have HH1 := az H1
  have HH2 := az H2
  have HH3 := az H3
  have lv := gW hv
  go_in
  go_wp2_with fail
  have KG1 := az (ah w (.cells #[.int .u8 (op : Int), .int .u8 (a : Int), .int .u8 (b : Int), .int .u8 (c : Int), P0 fb, P0 tb, P0 eb] 186) none)
  have HX1 := az (jf w op a b c fb tb eb)
  generalize hW : w.alloc (.cells #[.int .u8 (op : Int), .int .u8 (a : Int), .int .u8 (b : Int), .int .u8 (c : Int), P0 fb, P0 tb, P0 eb] 186) = w1 at *
  refine (HH1.out w1 KG1.out HX1.out).mono ?_
  rintro e w2 ⟨x, o, rfl, hS2, hX2⟩
  have HS2 := az hS2
  have HX2 := az hX2
  obtain ⟨x0, x1, x2, x3, x4, x5, x6⟩ := fk HX2.out
  have lx := bz HX2.out
  cases o with
  | true =>
    go_wp2_with fail
    refine (HH2.out x w2 _ HS2.out (ah _ _ _)).mono ?_
    rintro e w3 ⟨rfl, hR3⟩
    have HR3 := az hR3
    go_wp2_with fail
    go_end0
    exact ⟨rfl, HR3.out⟩
  | false =>
    go_wp2_with fail
    first
      | (refine (HH3.out x w2 _ HS2.out (ah _ _ _)).mono ?_
         rintro e w3 ⟨rfl, hR3⟩
         have HR3 := az hR3
         go_wp2_with fail
         go_end0
         exact ⟨rfl, HR3.out⟩)
      | trace_state
theorem uJ(op a b c fb tb eb vbx wb : Nat) (R : World → Prop) (w : World) (hw : w.cell? ⟨wb, 0, none⟩ = some (Fv 155 #[P0 vbx]))
    (H : ∀ w1, w.grownBy w1 none → Calls prog 155 #[dZ op a b c fb tb eb, P0 vbx] w1 fun e w' => e = .returned (.tuple #[]) ∧ R w') :
    Calls prog 163 #[dZ op a b c fb tb eb, P0 wb] w fun e w' => e = .returned (.int .i64 0) ∧ R w' := by
  have HH := az H
  have lw := gW hw
  go_in
  go_wp2_with fail
  first
    | (refine (HH.out _ (ah _ _ _)).mono ?_
       rintro e w2 ⟨rfl, hR2⟩
       have HR2 := az hR2
       go_wp2_with fail
       go_ret
       exact ⟨rfl, HR2.out⟩)
    | trace_state
theorem A5(op a b c fb tb eb vbx : Nat) (S : Int → Bool → World → Prop) (R : World → Prop) (w : World) (hv : w.cell? ⟨vbx, 0, none⟩ = some (Fv 103 #[]))
    (H1 : ∀ w1, w.grownBy w1 none → w1.heap[w.heap.size]? = some (lZ op a b c fb tb eb) → Calls prog 103 #[dZ op a b c fb tb eb] w1 fun e w2 => ∃ (x : Int) (o : Bool), e = .returned (.tuple #[.agg #[.int .i64 x, .int .i64 0], .bool o]) ∧ S x o w2 ∧ w2.heap[w.heap.size]? = some (lZ op a b c fb tb eb))
    (H2 : ∀ x w2 w3, S x true w2 → w2.grownBy w3 none → Calls prog 149 #[dZ op a b c fb tb eb, .agg #[.int .i64 x, .int .i64 0]] w3 fun e w' => e = .returned (.tuple #[]) ∧ R w')
    (H3 : ∀ x w2 w3, S x false w2 → w2.grownBy w3 none → Calls prog 156 #[P0 eb, P0 tb] w3 fun e w' => e = .returned (.tuple #[]) ∧ R w') :
    Calls prog 155 #[dZ op a b c fb tb eb, P0 vbx] w fun e w' => e = .returned (.tuple #[]) ∧ R w' := by
  have HH1 := az H1
  have HH2 := az H2
  have HH3 := az H3
  have lv := gW hv
  go_in
  go_wp2_with fail
  have KG1 := az (ah w (.cells #[.int .u8 (op : Int), .int .u8 (a : Int), .int .u8 (b : Int), .int .u8 (c : Int), P0 fb, P0 tb, P0 eb] 186) none)
  have HX1 := az (jf w op a b c fb tb eb)
  generalize hW : w.alloc (.cells #[.int .u8 (op : Int), .int .u8 (a : Int), .int .u8 (b : Int), .int .u8 (c : Int), P0 fb, P0 tb, P0 eb] 186) = w1 at *
  refine (HH1.out w1 KG1.out HX1.out).mono ?_
  rintro e w2 ⟨x, o, rfl, hS2, hX2⟩
  have HS2 := az hS2
  have HX2 := az hX2
  obtain ⟨x0, x1, x2, x3, x4, x5, x6⟩ := fk HX2.out
  have lx := bz HX2.out
  cases o with
  | true =>
    go_wp2_with fail
    refine (HH2.out x w2 _ HS2.out (ah _ _ _)).mono ?_
    rintro e w3 ⟨rfl, hR3⟩
    have HR3 := az hR3
    go_wp2_with fail
    go_end0
    exact ⟨rfl, HR3.out⟩
  | false =>
    go_wp2_with fail
    first
      | (refine (HH3.out x w2 _ HS2.out (ah _ _ _)).mono ?_
         rintro e w3 ⟨rfl, hR3⟩
         have HR3 := az hR3
         go_wp2_with fail
         go_end0
         exact ⟨rfl, HR3.out⟩)
      | trace_state
