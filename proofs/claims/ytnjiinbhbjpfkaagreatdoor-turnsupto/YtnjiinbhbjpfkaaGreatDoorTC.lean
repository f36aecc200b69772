import Derived.Test.YtnjiinbhbjpfkaaGreatDoorTA
import Derived.Defers
import Derived.Laws.LoneSync
set_option maxRecDepth 100000
set_option maxHeartbeats 0
set_option linter.all false
namespace Go.Proofs.YtnjiinbhbjpfkaaGreatDoor
open Go.RowKit Go.Proofs.Tryz
section
variable {w w':aa}
def Fr(w:aa)(fb cb L nx rb nr:Nat)(back:Value)(R:Nat->B.V):Prop:=w.heap[fb]? = some (jo cb L nx rb nr back)/\Full w rb 149 (nr*2) (nr*2) (eQ R)/\fb≠rb
theorem Fr.kept{fb cb L nx rb nr:Nat}{back:Value}{R:Nat->B.V}(h:Fr w fb cb L nx rb nr back R)(i:w.grownBy w' none):Fr w' fb cb L nx rb nr back R:=
 ⟨da i h.1 eR,h.2.1.block (i.block rb h.2.1.lt eR),h.2.2⟩
theorem Hz{w1:aa}{J H u G W y o:Value}(Y:((w.alloc (.cells #[J,H,u,G,W,y,o] 186)).drew).grownBy w1 none): w1.cell? (ay w.heap.size 0)=some J/\w1.cell? (ay w.heap.size 1)=some H/\w1.cell? (ay w.heap.size 2)=some u/\w1.cell? (ay w.heap.size 3)=some G/\w1.cell? (ay w.heap.size 4)=some W/\w1.cell? (ay w.heap.size 5)=some y/\w1.cell? (ay w.heap.size 6)=some o/\w.heap.size<w1.heap.size:=by
 have i:=da Y (show _ from bl w _) eR;exact⟨fy i,fy i,fy i,fy i,fy i,fy i,fy i,ch i⟩
theorem GN(op a b c fb tb eb:Nat)(Y:b<256)(G:c<256)(w:aa): dD 84 #[ed op a b c fb tb eb] w (vA (0,B.wide b c)) λw'=>w.grownBy w' none:=by
 generalize o:B.wide b c=y;have u:Hid (B.wide b c=y):=o;delta dD;go_in;go_wp2_with fail
 refine(yR op a b c Y G _).mono ?_;rw[u.out];rintro e w1 ⟨rfl,i⟩;have hz:=i.size;simp at hz;obtain⟨k0,k1⟩:=bd i (a:=ay (w.heap.size+1) 0) eB;obtain⟨k2,H⟩:=bd i (a:=ay (w.heap.size+1) 1) eB;simp[go_sem]at k0 k1 k2 H;have J:Hid (w.grownBy w1 none):=ar (ax (ak _ _ _) _) i;go_wp2_with fail
 refine du (fG y _) ?_;rintro w2 rfl;have W:w.heap.size+1<w1.heap.size:=ag
 go_wp2
 refine dg (v:=vA (0,y)) (by simp[results,results84,go_sem,W,k0,k2]) rfl ⟨rfl,?_⟩;repeat (first|exact J|refine ax ?_ _|refine bu ?_ (ah eB) _)
theorem yZ(op a b c fb tb eb cb L nx rb nr vb:Nat)(back:Value)(R:Nat->B.V)(hb:b<256)(W:c<256)(Y:a<nr)(w:aa)(J:Fr w fb cb L nx rb nr back R)(hv:w.cell? (ay vb 0)=some (Fv 84 #[]))(Z:vb<w.heap.size): eL 148 #[ed op a b c fb tb eb,P0 vb] w λw'=>w.grownBy w' (some rb)/\Fr w' fb cb L nx rb nr back (B.set R a (0,B.wide b c)):=by
 have G:=bj J;clear J;have hn:=GN op a b c fb tb eb hb W;generalize B.wide b c=y at *;have HN:Hid (∀w,dD 84 #[ed op a b c fb tb eb] w (vA (0,y)) λw'=>w.grownBy w' none):=hn;clear hn;delta eL;go_in;go_wp2_with fail
 go_region_with (first|(go_at_call 84;refine du (HN.out _) λw1 o=>?_;obtain⟨s0,s1,s2,s3,s4,s5,s6,s7⟩:=Hz o;have i:Hid (w.grownBy w1 none):=ar (by repeat (first|exact aw _ _|refine bo ?_|refine ax ?_ _)) o;clear o)|(go_at_call 149;refine du (kH op a b c fb tb eb cb L nx rb nr back R (0,y) w1 (G.out.kept i.out).1 (G.out.kept i.out).2.1 Y) ?_;rintro w2 ⟨u,H⟩))
 all_goals
  go_wp2_with fail
  go_end0;refine⟨rfl,ar (eT i.out) u,da u (G.out.kept i.out).1 (by intro e;injection e with e;exact G.out.2.2 e),H,G.out.2.2⟩
theorem FL(op a b c fb tb eb cb L nx rb nr y vb:Nat)(back:Value)(R:Nat->B.V)(hb:b<256)(W:c<256)(ha:a<nr)(w:aa)(J:Fr w fb cb L nx rb nr back R)(Y:y<w.heap.size)(hw:w.cell? (ay y 0)=some (Fv 148 #[P0 vb]))(Z:w.cell? (ay vb 0)=some (Fv 84 #[]))(G:vb<w.heap.size): dD 163 #[ed op a b c fb tb eb,P0 y] w (aj 0) λw'=>w.grownBy w' (some rb)/\Fr w' fb cb L nx rb nr back (B.set R a (0,B.wide b c)):=by
 have KF:Hid (Fr w fb cb L nx rb nr back R):=J;delta dD;go_in;go_wp2_with fail
 refine du (yZ op a b c fb tb eb cb L nx rb nr vb back R hb W ha _ (KF.kept (ak _ _ _)) (by simp[go_sem,G,Z]) fH) ?_;rintro w1 ⟨i,o⟩;have u:Hid (Fr w1 fb cb L nx rb nr back (B.set R a (0,B.wide b c))):=o;have H:Hid (w.grownBy w1 (some rb)):=ar (ak _ _ _) i;go_wp2
 go_ret;exact⟨rfl,H,u⟩
abbrev ju(op a b c fb tb eb:Nat):Obj:=.cells #[.int .u8 op,.int .u8 a,.int .u8 b,.int .u8 c,P0 fb,P0 tb,P0 eb] 186 (0,0)
def eZ{sb op a b c fb tb eb:Nat}(h:w'.heap[sb]? = some (ju op a b c fb tb eb)):w'.cell? (ay sb 0)=some (dy op)/\w'.cell? (ay sb 1)=some (dy a)/\w'.cell? (ay sb 2)=some (dy b)/\w'.cell? (ay sb 3)=some (dy c)/\w'.cell? (ay sb 4)=some (P0 fb)/\w'.cell? (ay sb 5)=some (P0 tb)/\w'.cell? (ay sb 6)=some (P0 eb):=by
 simp[World.cell?,h]
def iN(w:aa)(op a b c fb tb eb:Nat):(w.alloc (.cells #[dy op,dy a,dy b,dy c,P0 fb,P0 tb,P0 eb] 186)).heap[w.heap.size]? = some (ju op a b c fb tb eb):=bl w _
theorem dv(h:w.grownBy w' none){k:Nat}{o:Obj}(i:w.heap[k]? = some o):w'.heap[k]? = some o:=da h i eR
theorem vP(x:Bool)(w:aa):Calls prog 92 #[.bool x] w λe w'=>e=.returned (.int .i64 (if x=true then 1 else 0))/\w'=w:=by
 cases x
 .go_in;go_wp2_with fail
  go_ret;simp_all
 go_in;go_wp2_with fail
 go_ret;simp_all
theorem NG(x y:B.V)(w:aa):(binOp .eql 149 (vA x) (vA y)).run prog w=.ok (.bool (decide (x=y))) w:=by
 obtain⟨e,o⟩:=x;obtain⟨i,u⟩:=y;have G:((e:Int)=i)↔e=i:=ag
 simp[go_sem];grind
theorem D5(op a b c fb tb eb cb L nx rb nr:Nat)(back:Value)(R:Nat->B.V)(hb:b<nr)(hc:c<nr)(w:aa)(hF:Fr w fb cb L nx rb nr back R): dD 93 #[ed op a b c fb tb eb] w (vA (0,if R b=R c then 1 else 0)) λw'=>w.grownBy w' none:=by
 have KF:=bj hF;clear hF;have a2:=NG (R b) (R c);have Y:(if decide (R b=R c)=true then(1:Int) else 0)=(if R b=R c then 1 else 0):=by by_cases h:R b=R c<;>simp[h]
 rw[<-Y];clear Y;generalize decide (R b=R c)=d at *;generalize hy:(if d=true then(1:Int) else 0)=y;have HY:=bj hy;clear hy;delta dD;go_in;go_wp2_with fail
 generalize hW:(w.alloc (.cells #[dy (op:Int),dy (a:Int),dy (b:Int),dy (c:Int),P0 fb,P0 tb,P0 eb] 186)).alloc (.cells #[aj 0,aj 0] 149)=w1;have G:Hid (w.grownBy w1 none):=by rw[<-hW];exact ax (ak _ _ _) _
 have hx:w1.heap[w.heap.size]? = some (ju op a b c fb tb eb):=by rw[<-hW,av _ _ _ eB];exact bl w _
 have hr:w1.heap[w.heap.size+1]? = some (.cells #[aj 0,aj 0] 149 (0,0)):=by
  rw[<-hW];have:=bl (w.alloc (.cells #[dy (op:Int),dy (a:Int),dy (b:Int),dy (c:Int),P0 fb,P0 tb,P0 eb] 186)) (.cells #[aj 0,aj 0] 149);simpa using this
 clear hW;have Z:=bj hx;have HR:=bj hr;clear hx hr;obtain⟨x0,x1,x2,x3,x4,x5,x6⟩:=eZ Z.out;go_region_with (first
   | (go_at_call 86;refine du (rz op a b c fb tb eb cb L nx rb nr back R w1.drew (KF.out.kept G.out).1 (KF.out.kept G.out).2.1 hb) λw2 o=>?_;have u:Hid (w1.grownBy w2 none):=⟨o.os,o.tape,o.output,o.size,o.block⟩;clear o;obtain⟨x0,x1,x2,x3,x4,x5,x6⟩:=eZ (dv u.out Z.out))
   | (go_at_call 94;refine du (sX op a b c fb tb eb cb L nx rb nr back R w2 (KF.out.kept (ar G.out u.out)).1 (KF.out.kept (ar G.out u.out)).2.1 hc) λH J=>?_;have W:=bj (ar u.out J);clear J;have i:=dv W.out HR.out;have r0:H.cell? (ay (w.heap.size+1) 0)=some (aj 0):=(by simp[World.cell?,i]);have r1:H.cell? (ay (w.heap.size+1) 1)=some (aj 0):=(by simp[World.cell?,i]);have r2:H.frozen? (ay (w.heap.size+1) 0)=false:=(by simp[World.frozen?,i]);have r3:H.frozen? (ay (w.heap.size+1) 1)=false:=(by simp[World.frozen?,i]);have a0:=ch i;clear i)
   | (go_at_call 92;refine(vP d H).mono ?_;rw[HY.out];rintro e w4 ⟨rfl,rfl⟩)
   | (go_at_call 61;refine du (fG y _) ?_;rintro w5 rfl))
 all_goals
  go_wp2_with fail
  refine dg (v:=vA (0,y)) (by simp[results,results93,go_sem,a0,r0,r1]) rfl ⟨rfl,?_⟩;exact ax (bu (bu (ar G.out W.out) (ah eB) _) (ah eB) _) _
def Tryz.EU:(prog.info? 184).map (λi=>(i.zero,i.size,i.bytes))=some (some (.pointer none),1,8):=by kernel_rfl
theorem nR(j:Nat):eQ (λ_=>((0,0):B.V)) j=aj 0:=by grind[eQ]
theorem Cx{g b e:Nat}(h:w.ownsRow e 149 2 (dA g b b) b (madeCells #[aj 0,aj 0] (b*2)).toList):Full w g 149 (b*2) (b*2) (eQ (λ_=>(0,0))):=by
 rcases h.2 with⟨h,_⟩|⟨g',u,i,H,h2,Y,h4,Z,J,W⟩
 .cases h
 cases H;refine⟨i,Y,J,λj y=>?_⟩;have o:=congrArg (λl=>l[j]?) W;have G:(madeCells #[aj 0,aj 0] (b*2)).toList[j]? = some (aj 0):=by
  simp only[madeCells,Array.getElem?_toList,Array.getElem?_map,Array.getElem?_range];rw[bf y];have:j % 2=0\/j % 2=1:=by omega
  rcases this with h|h<;>simp[h]
 simp only[G,dO]at o;simp_all[bf,nR]
def B.iJ(c t:Int):Int:=if t<=0 then c else if t<=9223372036854775807-c then c+t else 9223372036854775807
def B.xD{c t:Int}(e:0<=c)(i:c<=9223372036854775807):0<=B.iJ c t/\B.iJ c t<=9223372036854775807:=by
 unfold B.iJ;split
 .omega
 split<;>omega
theorem wD(eb:Nat)(c t:Int)(w:aa)(h:w.cell? ⟨eb,28,none⟩=some (.int .i64 c))(Z:0<=c)(Y:c<=9223372036854775807): Calls prog 64 #[P0 eb,.int .i64 t] w λe w'=>e=.returned (.int .i64 (B.iJ c t))/\w'=w:=by
 generalize J:B.iJ c t=y;have o:=bj J;have W:IntKind.i64.wrap (9223372036854775807-c)=9223372036854775807-c:=by simp[IntKind.wrap,IntKind.bits,IntKind.signed];omega
 by_cases ht:t<0
 .have i:y=c:=by rw[<-o.out];unfold B.iJ;rw[bf ag]
  subst i;have u:¬(9223372036854775807-y<0):=ag;go_in;go_wp2_with fail
  go_ret;exact⟨rfl,rfl⟩
 by_cases H:t<=9223372036854775807-c
 .have i:c+t=y:=by
   rw[<-o.out];unfold B.iJ
   by_cases h:t<=0
   .rw[bf h];omega
   rw[au h,bf H]
  have u:¬(9223372036854775807-c<t):=ag;have G:IntKind.i64.wrap (c+t)=c+t:=by simp[IntKind.wrap,IntKind.bits,IntKind.signed];omega
  go_in;go_wp2_with fail
  go_ret;exact⟨by rw[<-i];rfl,rfl⟩
 have i:c+(9223372036854775807-c)=y:=by
  rw[<-o.out];unfold B.iJ
  rw[au ag,au H];omega
 have u:9223372036854775807-c<t:=ag;go_in;go_wp2_with fail
 go_ret;exact⟨by rw[<-i];rfl,rfl⟩
theorem GO(op a b c fb tb eb:Nat)(x:Int)(w:aa)(h:w.cell? (ay eb 28)=some (aj x))(le:eb<w.heap.size): dD 117 #[ed op a b c fb tb eb] w (vA (0,x)) λw'=>w.grownBy w' none:=by
 have i:eb<w.heap.size+1:=ag;delta dD;go_in;go_wp2_with fail
 refine du (fG x _) ?_;rintro w2 rfl;go_wp2
 refine dg (v:=vA (0,x)) (by simp[results,results117,go_sem]) rfl ⟨rfl,?_⟩;repeat (first|exact aw _ _|refine ax ?_ _|refine bu ?_ (ah eB) _)
theorem disable(w:aa):(callFunc 122 #[]).run prog w=.ok (.value (.tuple #[])) w:=run_call_mark0 func122 eX eX eX .disable eX w
theorem enable(w:aa):(callFunc 124 #[]).run prog w=.ok (.value (.tuple #[])) w:=run_call_mark0 func124 eX eX eX .enable eX w
theorem acquire(a:Addr)(w:aa):(callFunc 125 #[.pointer (some a)]).run prog w=.ok (.value (.tuple #[])) w:=run_call_marked func125 eX eX eX .acquire eX a w
theorem releaseMerge(a:Addr)(w:aa):(callFunc 127 #[.pointer (some a)]).run prog w=.ok (.value (.tuple #[])) w:=run_call_marked func127 eX eX eX .releaseMerge eX a w
theorem jV(a:Addr)(u:FrameMode)(w:aa)(i:w.cell? a=some (.int .i32 1))(hz:w.frozen? a=false): CallsD prog 40 #[.pointer (some a)] u w λe H w'=>H=u/\(e=.returned (.tuple #[])/\w'=w.setCell a (.int .i32 0)):=by
 have J:=disable;have he:=enable;have W:=releaseMerge;have G:=run_convert_to_unsafe (P:=prog) (src:=210) (dst:=214) underlying210 underlying214 eX i;have o:=run_call_add (P:=prog) func128 eX eX eX .i32 eX (y:=-1) (s:=0) i hz (by simp[go_sem];rfl);go_enter_d func40,ntmps40
 go_wp2
 go_end0;go_wp2
 go_end0;grind
theorem rf(b:Nat)(w:aa)(u:w.cell? (ay b 0)=some (.int .i32 0))(G:w.frozen? (ay b 0)=false): eL 39 #[P0 b] w λw'=>w'=w.setCell (ay b 0) (.int .i32 1):=by
 have J:=disable;have he:=enable;have W:=acquire;have o:=run_call_cas_hit (P:=prog) func123 eX eX eX .i32 eX (y:=1) u G;have i:dS (w.setCell (ay b 0) (.int .i32 1)) b 0=some (.int .i32 1):=by simp[go_sem,u]
 have H:=run_convert_to_unsafe (P:=prog) (src:=210) (dst:=214) underlying210 underlying214 eX i;delta eL;go_in;go_wp2
 first|go_end0|(simp only[Exit.inBlock,Exit.then];refine dg (results_none rfl _ _ _) rfl ?_)|refine dg (results_none rfl _ _ _) rfl ?_
 go_wp2
 go_end0;grind
theorem zL(mb eb o c0:Nat)(i:Option Addr)(ticks:Int)(w:aa)(H:w.cell? (ay mb 0)=some (.int .i32 0))(y:w.frozen? (ay mb 0)=false)(W:w.cell? (ay mb 2)=some (P0 eb))(R:Value->aa->Prop)(u:Hid (Calls prog 41 #[P0 eb,aj ticks,.slice i o c0] (w.setCell (ay mb 0) (.int .i32 1)) λe w'=>∃ad n c,e=.returned (.slice ad n c)/\w'.cell? (ay mb 0)=some (.int .i32 1)/\w'.frozen? (ay mb 0)=false/\R (.slice ad n c) w')): Calls prog 24 #[P0 mb,aj ticks,.slice i o c0] w λe w'=>∃v w1,e=.returned v/\R v w1/\w'=w1.setCell (ay mb 0) (.int .i32 0):=by
 go_enter_defers func24,ntmps24
 go_wp2_with fail
 refine du (rf mb w H y) ?_;rintro w1 rfl;go_wp2_with fail
 refine u.mono ?_;rintro e w2 ⟨ad,n,c,rfl,c0,c1,hR⟩;have G:Hid (R (.slice ad n c) w2):=hR;go_wp2_with fail
 refine leaves_cons (f:=40) (args:=#[P0 mb]) eB (by simp[go_sem]) ?_;refine(jV (ay mb 0) .returning _ c0 c1).mono ?_;rintro e J w'' ⟨rfl,rfl,rfl⟩;exact⟨_,results_tmp rfl _ _ _,.slice ad n c,w2,rfl,G,rfl⟩
theorem zW(mb eb:Nat)(w:aa)(y:w.cell? (ay mb 0)=some (.int .i32 0))(o:w.frozen? (ay mb 0)=false)(H:w.cell? (ay mb 2)=some (P0 eb))(R:Value->aa->Prop)(i:Hid (Calls prog 43 #[P0 eb] (w.setCell (ay mb 0) (.int .i32 1)) λe w'=>∃ad n c,e=.returned (.slice ad n c)/\w'.cell? (ay mb 0)=some (.int .i32 1)/\w'.frozen? (ay mb 0)=false/\R (.slice ad n c) w')): Calls prog 26 #[P0 mb] w λe w'=>∃v w1,e=.returned v/\R v w1/\w'=w1.setCell (ay mb 0) (.int .i32 0):=by
 go_enter_defers func26,ntmps26
 go_wp2_with fail
 refine du (rf mb w y o) ?_;rintro w1 rfl;go_wp2_with fail
 refine i.mono ?_;rintro e w2 ⟨ad,n,c,rfl,c0,c1,hR⟩;have u:Hid (R (.slice ad n c) w2):=hR;go_wp2_with fail
 refine leaves_cons (f:=40) (args:=#[P0 mb]) eB (by simp[go_sem]) ?_;refine(jV (ay mb 0) .returning _ c0 c1).mono ?_;rintro e G w'' ⟨rfl,rfl,rfl⟩;exact⟨_,results_tmp rfl _ _ _,.slice ad n c,w2,rfl,u,rfl⟩
theorem ye(mb eb:Nat)(w:aa)(y:w.cell? (ay mb 0)=some (.int .i32 0))(o:w.frozen? (ay mb 0)=false)(H:w.cell? (ay mb 2)=some (P0 eb))(R:Int->aa->Prop)(i:Hid (Calls prog 42 #[P0 eb] (w.setCell (ay mb 0) (.int .i32 1)) λe w'=>∃x:Int,e=.returned (aj x)/\w'.cell? (ay mb 0)=some (.int .i32 1)/\w'.frozen? (ay mb 0)=false/\R x w')): Calls prog 25 #[P0 mb] w λe w'=>∃x w1,e=.returned (aj x)/\R x w1/\w'=w1.setCell (ay mb 0) (.int .i32 0):=by
 go_enter_defers func25,ntmps25
 go_wp2_with fail
 refine du (rf mb w y o) ?_;rintro w1 rfl;go_wp2_with fail
 refine i.mono ?_;rintro e w2 ⟨x,rfl,c0,c1,hR⟩;have u:Hid (R x w2):=hR;go_wp2_with fail
 refine leaves_cons (f:=40) (args:=#[P0 mb]) eB (by simp[go_sem]) ?_;refine(jV (ay mb 0) .returning _ c0 c1).mono ?_;rintro e G w'' ⟨rfl,rfl,rfl⟩;exact⟨_,results_tmp rfl _ _ _,x,w2,rfl,u,rfl⟩
