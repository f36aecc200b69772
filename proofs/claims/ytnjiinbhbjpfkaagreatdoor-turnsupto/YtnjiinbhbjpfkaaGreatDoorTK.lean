import Derived.Test.YtnjiinbhbjpfkaaGreatDoorTD
import Derived.Test.YtnjiinbhbjpfkaaGreatDoorTB
import Derived.Test.YtnjiinbhbjpfkaaGreatDoorTE
import Derived.Deep.LoopGhost
set_option maxRecDepth 100000
set_option maxHeartbeats 0
set_option linter.all false
namespace Go.Proofs.YtnjiinbhbjpfkaaGreatDoor
open Go.RowKit Go.Proofs.Tryz
section
def Dz(op a b c fb tb eb:Nat)(w:aa):dD 96 #[ed op a b c fb tb eb] w (.bool true) λw'=>w.grownBy w' none:=by
 delta dD;go_in;go_wp2
 go_ret;simp[ak]
def Dj(op a b c fb tb eb cb L nx rb nr:Nat)(back:Value)(R:Nat->B.V)(H:a<nr)(w:aa)(u:Fr w fb cb L nx rb nr back R):dD 97 #[ed op a b c fb tb eb] w (.bool (decide (R a=(0,0)))) λw'=>w.grownBy w' none:=by
 have y:=bj u;have G:=NG (R a) (0,0);generalize decide (R a=(0,0))=d at *;delta dD;go_in;go_wp2_with fail
 refine du (BF op a b c fb tb eb cb L nx rb nr back R _ (y.kept (ak _ _ _)).1 (y.kept (ak _ _ _)).2.1 H) λw1 i=>?_;have o:=bj (ar (ak w _ none) i);go_wp2_with fail
 refine du (fG 0 _) ?_;rintro w2 rfl;go_wp2
 go_ret;exact⟨rfl,ax o _⟩
def Au(op a b c fb tb eb cb L nx rb nr vb:Nat)(back:Value)(R:Nat->B.V)(d:Bool)(y:Nat)(hy:Hid (y=if d=true then 256*b+c else nx))(hb:b<256)(hc:c<256)(w:aa)(hF:Fr w fb cb L nx rb nr back R)(hv:w.cell? (ay vb 0)=some (Fv 96 #[]))(a0:vb<w.heap.size)(hn:Hid (∀w',w.grownBy w' none->dD 96 #[ed op a b c fb tb eb] w' (.bool d) λw''=>w'.grownBy w'' none)): eL 153 #[ed op a b c fb tb eb,P0 vb] w λw'=>w.grownBy w' (some fb)/\Fr w' fb cb L y rb nr back R:=by
 have KF:=bj hF;have ht:=ub op a b c hb hc;delta eL;go_in;go_wp2_with fail
 refine du (hn _ (ak _ _ _)) λw1 H=>?_;have W:=bj (ar (ak w _ none) H);have J:=bj (dv H (iN w op a b c fb tb eb));have Y:=bj (KF.kept W)
 cases d
 .have u:y=nx:=by have:=hy.out;simpa using this
  subst u;go_wp2
  go_end0;exact⟨rfl,eT W,Y⟩
 have u:256*b+c=y:=by have:=hy.out;simpa using this.symm
 rw[u]at ht;have HT:=bj ht;obtain⟨x0,x1,x2,x3,x4,x5,x6⟩:=eZ J;go_wp2
 go_region_with (go_at_call 154;refine du (HT w1.drew) λw2 i=>?_;have G:w1.grownBy w2 none:=⟨i.os,i.tape,i.output,i.size,i.block⟩;have o:=bj (Y.kept G);have Z:=bj (ar W G);obtain⟨x0,x1,x2,x3,x4,x5,x6⟩:=eZ (dv G J);obtain⟨_,f1,_,_,z1⟩:=ji o.1;clear G)
 all_goals
  go_wp2
  go_end0;refine⟨rfl,bu (eT Z) (af rfl) _,uL o.1 y,o.2.1.off (λe=>o.2.2 e.symm),o.2.2⟩
def Ax(op a b c fb tb eb cb L nx rb nr G vb:Nat)(back:Value)(R:Nat->B.V)(d:Bool)(y:Nat)(Y:Hid (y=if d=true then 256*b+c else nx))(hb:b<256)(hc:c<256)(w:aa)(W:Fr w fb cb L nx rb nr back R)(hw:w.cell? (ay G 0)=some (Fv 153 #[P0 vb]))(hv:w.cell? (ay vb 0)=some (Fv 96 #[]))(a0:G<w.heap.size)(H:vb<w.heap.size)(hn:Hid (∀w',w.grownBy w' none->dD 96 #[ed op a b c fb tb eb] w' (.bool d) λw''=>w'.grownBy w'' none)): dD 163 #[ed op a b c fb tb eb,P0 G] w (aj 0) λw'=>w.grownBy w' (some fb)/\Fr w' fb cb L y rb nr back R:=by
 have KF:=bj W;delta dD;go_in;go_wp2_with fail
 refine du (Au op a b c fb tb eb cb L nx rb nr vb back R d y Y hb hc _ (KF.kept (ak _ _ _)) (by simp[go_sem,H,hv]) fH (λw' Z=>hn w' (ar (ak _ _ _) Z))) ?_;rintro w1 ⟨i,o⟩;have u:=bj o;have J:Hid (w.grownBy w1 (some fb)):=ar (ak _ _ _) i;go_wp2
 go_ret;exact⟨rfl,J,u⟩
def At(op a b c fb tb eb cb L nx rb nr vb:Nat)(back:Value)(R:Nat->B.V)(d:Bool)(y:Nat)(hy:Hid (y=if d=true then 256*b+c else nx))(hb:b<256)(hc:c<256)(w:aa)(hF:Fr w fb cb L nx rb nr back R)(hv:w.cell? (ay vb 0)=some (Fv 97 #[]))(a0:vb<w.heap.size)(hn:Hid (∀w',w.grownBy w' none->dD 97 #[ed op a b c fb tb eb] w' (.bool d) λw''=>w'.grownBy w'' none)): eL 153 #[ed op a b c fb tb eb,P0 vb] w λw'=>w.grownBy w' (some fb)/\Fr w' fb cb L y rb nr back R:=by
 have KF:=bj hF;have ht:=ub op a b c hb hc;delta eL;go_in;go_wp2_with fail
 refine du (hn _ (ak _ _ _)) λw1 H=>?_;have W:=bj (ar (ak w _ none) H);have J:=bj (dv H (iN w op a b c fb tb eb));have Y:=bj (KF.kept W)
 cases d
 .have u:y=nx:=by have:=hy.out;simpa using this
  subst u;go_wp2
  go_end0;exact⟨rfl,eT W,Y⟩
 have u:256*b+c=y:=by have:=hy.out;simpa using this.symm
 rw[u]at ht;have HT:=bj ht;obtain⟨x0,x1,x2,x3,x4,x5,x6⟩:=eZ J;go_wp2
 go_region_with (go_at_call 154;refine du (HT w1.drew) λw2 i=>?_;have G:w1.grownBy w2 none:=⟨i.os,i.tape,i.output,i.size,i.block⟩;have o:=bj (Y.kept G);have Z:=bj (ar W G);obtain⟨x0,x1,x2,x3,x4,x5,x6⟩:=eZ (dv G J);obtain⟨_,f1,_,_,z1⟩:=ji o.1;clear G)
 all_goals
  go_wp2
  go_end0;refine⟨rfl,bu (eT Z) (af rfl) _,uL o.1 y,o.2.1.off (λe=>o.2.2 e.symm),o.2.2⟩
def Aw(op a b c fb tb eb cb L nx rb nr G vb:Nat)(back:Value)(R:Nat->B.V)(d:Bool)(y:Nat)(Y:Hid (y=if d=true then 256*b+c else nx))(hb:b<256)(hc:c<256)(w:aa)(W:Fr w fb cb L nx rb nr back R)(hw:w.cell? (ay G 0)=some (Fv 153 #[P0 vb]))(hv:w.cell? (ay vb 0)=some (Fv 97 #[]))(a0:G<w.heap.size)(H:vb<w.heap.size)(hn:Hid (∀w',w.grownBy w' none->dD 97 #[ed op a b c fb tb eb] w' (.bool d) λw''=>w'.grownBy w'' none)): dD 163 #[ed op a b c fb tb eb,P0 G] w (aj 0) λw'=>w.grownBy w' (some fb)/\Fr w' fb cb L y rb nr back R:=by
 have KF:=bj W;delta dD;go_in;go_wp2_with fail
 refine du (At op a b c fb tb eb cb L nx rb nr vb back R d y Y hb hc _ (KF.kept (ak _ _ _)) (by simp[go_sem,H,hv]) fH (λw' Z=>hn w' (ar (ak _ _ _) Z))) ?_;rintro w1 ⟨i,o⟩;have u:=bj o;have J:Hid (w.grownBy w1 (some fb)):=ar (ak _ _ _) i;go_wp2
 go_ret;exact⟨rfl,J,u⟩
def MU(w w2:aa)(tb:Nat)(u:Int):Prop:=∃w1,w.grownBy w1 none/\w2=w1.setCell ⟨tb,5,none⟩ (.int .i64 u)/\w2.heap[w.heap.size]? = some (.cells #[P0 tb] 155 (0,0))
def Jh(eb tb n sc:Nat)(sa:Option Addr)(clk x j:Int)(Tk:Nat->Value)(R:aa->Prop)(w:aa)(ne:eb≠tb)(a0:w.cell? (ay eb 28)=some (aj clk))(a3:w.cell? (ay eb 33)=some (.slice sa n sc))(hT:Full w tb 160 7 7 Tk)(c0:0<=clk)(c1:clk<=9223372036854775807)(HI:∀w2 u,MU w w2 tb (B.iJ clk x)->w2.grownBy u none->dD 205 #[.slice sa n sc,Fv 204 #[P0 w.heap.size]] u (aj j) λw'=>u.grownBy w' none)(HN:∀w2 u,MU w w2 tb (B.iJ clk x)->w2.grownBy u none->eL 166 #[Pt eb 33,aj (if j<0 then(n:Int) else j),P0 tb] u λw'=>R w'/\w'.heap[w.heap.size]? = some (.cells #[P0 tb] 155 (0,0))): eL 168 #[P0 eb,P0 tb,aj x] w λw'=>R w':=by
 have aI:=bj HI;have H:=bj HN;have le:=gM a0;have lt:=hT.lt;have KT:=bj hT;have HC:=bj (bh c0 c1);clear HI HN hT c0 c1;delta eL;go_in;go_wp2_with fail
 have J:=bj (ak w (.cells #[P0 tb] 155) none);have hx:=bl w (.cells #[P0 tb] 155);have aD:(w.alloc (.cells #[P0 tb] 155)).heap.size=w.heap.size+1:=eB
 generalize hW:w.alloc (.cells #[P0 tb] 155)=w1 at *;have x0:w1.cell? (ay w.heap.size 0)=some (P0 tb):=fy hx
 have HX:=bj hx;clear hW hx;have a4:=bj (KT.out.block (J.out.block tb lt im));have G:=(bd J.out (a:=ay eb 28) le).1.trans a0;have Y:=(bd J.out (a:=ay eb 33) le).1.trans a3;obtain⟨d5,z5⟩:=a4.out.cells 5 ag;generalize Tk 5=y5 at d5;have aN:eb<w1.heap.size:=ag
 have aM:=a4.out.lt;have a8:w.heap.size≠tb:=ag
 have aJ:¬tb=w.heap.size:=ag
 have aB:=bj (λw' h=>wD eb clk x w' h HC.out.1 HC.out.2);have aF:=bj ne;clear a0 a3;go_region_with (go_at_call 64;refine du (aB.out _ (by first|exact G|(show w1.cell? _=_;exact G))) ?_;rintro w2 rfl)
 all_goals
  have a9:MU w (w1.setCell (ay tb 5) (aj (B.iJ clk x))) tb (B.iJ clk x):=⟨w1,J.out,rfl,(ab _ _ _ _ a8).trans HX.out⟩;have a2:=bj a9;have a6:(w1.setCell (ay tb 5) (aj (B.iJ clk x))).cell? (ay eb 33)=some (.slice sa n sc):=by rw[az (a:=ay eb 33) (ab _ _ _ _ aF.out)];exact Y
  have x2:(w1.setCell (ay tb 5) (aj (B.iJ clk x))).cell? (ay w.heap.size 0)=some (P0 tb):=by rw[az (a:=ay w.heap.size 0) (ab _ _ _ _ a8)];exact x0
  have aC:(w1.setCell (ay tb 5) (aj (B.iJ clk x))).heap.size=w1.heap.size:=by simp[World.setCell]
  generalize aG:w1.setCell (ay tb 5) (aj (B.iJ clk x))=w2 at *;have aA:eb<w2.heap.size:=ag
  have a5:w.heap.size<w2.heap.size:=ag
  clear aG G d5 z5 Y x0 aB a9 aC aD;go_wp2_with fail
  refine du (aI.out w2 _ a2.out (bo (aw w2 none))) λu W=>?_;have o:=ar (bo (aw w2 none)) W;clear W;have a7:=bj o;have aK:=(bd o (a:=ay eb 33) aA).1.trans a6;have x3:=(bd o (a:=ay w.heap.size 0) a5).1.trans x2;have aO:=dm aA o.size;have aL:=dm a5 o.size;clear o a6 x2;by_cases Z:j<0
  .have HJ:=bj Z;rw[bf Z]at H;have aH:decide (j<0)=true:=gG Z
   clear Z;go_wp2_with fail
   go_region_with (go_at_call 166;refine du (H.out w2 u.drew a2.out (bo a7.out)) ?_;rintro w4 ⟨y,i⟩;have a1:=bj y;clear y i)
   all_goals
    go_wp2_with fail
    go_end0;exact⟨rfl,a1.out⟩
  have HJ:=bj Z;rw[au Z]at H;have aH:decide (j<0)=false:=gG Z
  clear Z;go_wp2_with fail
  go_region_with (go_at_call 166;refine du (H.out w2 u.drew a2.out (bo a7.out)) ?_;rintro w4 ⟨y,i⟩;have a1:=bj y;clear y i)
  all_goals
   go_wp2_with fail
   go_end0;exact⟨rfl,a1.out⟩
def GF(op a b c fb tb eb:Nat)(z:Int)(w:aa)(o:∀w1,w.grownBy w1 none->dD 130 #[P0 eb,aj z] w1 (.tuple #[.pointer none,.bool false]) λw'=>w'=w1): dD 116 #[ed op a b c fb tb eb,aj z] w (aj 8) λw'=>w.grownBy w' none:=by
 have i:=bj o;delta dD;go_in;go_wp2_with fail
 refine du (i _ (ak _ _ _)) ?_;rintro w2 rfl;go_wp2
 go_ret;simp[ak]
def Cl(op a b c fb tb eb o x:Nat)(z:Int)(hx:x<256)(R1 R:aa->Prop)(w:aa)(H1:∀w1,w.grownBy w1 none->dD 130 #[P0 eb,aj z] w1 (.tuple #[Pt eb o,.bool true]) λw'=>w'=w1)(H2:∀w1,w.grownBy w1 none->dD 174 #[Pt eb o] w1 (.tuple #[dy x,.bool true]) λw'=>R1 w'/\(∀k,w.heap.size<=k->k<w1.heap.size->w'.heap[k]? = w1.heap[k]?))(H3:∀w1 w2,R1 w1->w1.grownBy w2 none->eL 149 #[ed op a b c fb tb eb,vA (0,(x:Int))] w2 λw'=>R w'/\(∀k,w.heap.size<=k->k<w2.heap.size->w'.heap[k]? = w2.heap[k]?)): dD 116 #[ed op a b c fb tb eb,aj z] w (aj 0) λw'=>R w':=by
 have a4:=bj H1;have a0:=bj H2;have a5:=bj H3;have a7:IntKind.i64.wrap (x:Int)=x:=by simp[IntKind.wrap,IntKind.bits,IntKind.signed];omega
 delta dD;go_in;go_wp2_with fail
 have H:=bj (iN w op a b c fb tb eb);have Z:=bj (ak w (.cells #[dy op,dy a,dy b,dy c,P0 fb,P0 tb,P0 eb] 186) none);generalize hW:w.alloc (.cells #[dy op,dy a,dy b,dy c,P0 fb,P0 tb,P0 eb] 186)=w1 at *;refine du (a4 w1 Z) ?_;rintro w2 rfl;go_wp2_with fail
 refine du (a0 w2 Z) ?_;rintro y ⟨Y,J⟩;have a1:=bj Y;have i:=bj ((J w.heap.size (bq _) (ch H)).trans H);go_wp2_with fail
 have u:Hid ((y.drew.alloc (.cells #[aj 0,aj x] 149)).heap[w.heap.size]? = some (ju op a b c fb tb eb)):=(av y.drew _ _ (show w.heap.size<y.drew.heap.size from (ch i))).trans i;go_region_held3 (λw'=>dS w' w.heap.size 0=some (dy op)/\dS w' w.heap.size 1=some (dy a)/\dS w' w.heap.size 2=some (dy b)/\dS w' w.heap.size 3=some (dy c)/\dS w' w.heap.size 4=some (P0 fb)/\dS w' w.heap.size 5=some (P0 tb)/\dS w' w.heap.size 6=some (P0 eb)) (first|exact eZ (show y.drew.heap[w.heap.size]? = _ from i)|exact eZ u|exact eZ a3) (first|(go_at_call 61;refine du (fG _ _) ?_;rintro w7 rfl)|(go_at_call 149;refine du (a5 y _ a1 (ax (bo (aw _ _)) _)) ?_;rintro w8 ⟨W,G⟩;have a2:=bj W;have a3:=bj ((G w.heap.size (bq _) (ch u)).trans u);clear W G))
 all_goals
  go_wp2
  go_ret;exact⟨rfl,a2⟩
def Ck(op a b c fb tb eb o : Nat) (z : Int) (R : aa → Prop) (w : aa) (le : eb < w.heap.size) (H1 : ∀ w1, w.grownBy w1 none → Calls prog 130 #[P0 eb, aj z] w1 fun e w' => e = .returned (.tuple #[Pt eb o, .bool true]) ∧ w' = w1)
    (H2 : ∀ w1, w.grownBy w1 none → Calls prog 174 #[Pt eb o] w1 fun e w' => e = .returned (.tuple #[dy 0, .bool false]) ∧ w' = w1)
    (H3 : ∀ w1, w.grownBy w1 none → Calls prog 171 #[ed op a b c fb tb eb, Pt eb (o + 1)] w1 fun e w' => e = .returned (.tuple #[]) ∧ R w') :
    Calls prog 116 #[ed op a b c fb tb eb, aj z] w fun e w' => e = .returned (aj 0) ∧ R w' := by
  have HH1 := bj H1
  have HH2 := bj H2
  have HH3 := bj H3
  go_in
  go_wp2_with fail
  have HX1 := bj (iN w op a b c fb tb eb)
  have KG1 := bj (ak w (.cells #[dy (op : Int), dy (a : Int), dy (b : Int), dy (c : Int), P0 fb, P0 tb, P0 eb] 186) none)
  generalize hW : w.alloc (.cells #[dy (op : Int), dy (a : Int), dy (b : Int), dy (c : Int), P0 fb, P0 tb, P0 eb] 186) = w1 at *
  refine du (HH1 w1 KG1) ?_;rintro w2  rfl
  go_wp2_with fail
  refine du (HH2 w2 KG1) ?_;rintro w3  rfl
  obtain⟨x0, x1, x2, x3, x4, x5, x6⟩ := eZ HX1
  go_wp2_with fail
  first
    | (refine du (HH3 w3 KG1) ?_;rintro w4  hR4
       have HR4 := bj hR4
       go_wp2
       go_ret
       exact⟨rfl, HR4⟩)
    | (go_region_with (go_at_call 171; refine (HH3 w3.drew (bo KG1)).mono ?_; rintro e w4 ⟨rfl, hR4⟩; have HR4 := bj hR4; clear hR4)
       all_goals
         go_wp2
         go_ret
         exact⟨rfl, HR4⟩)
def Ci(eb o n c H x:Nat)(ad y:Option Addr)(w:aa)(Y:w.cell? (ay eb o)=some (.slice ad n c))(J:w.cell? (ay eb (o+1))=some (.slice y 0 H))(hn:64<=n)(W:n<=1000): eL 131 #[Pt eb o,dy x] w λw'=>w'=w:=by
 have i:=gL eb (o+1) 0 H y w J;have u:decide ((0:Nat)=0)=true:=rfl;rw[u]at i;have G:=bj i;delta eL;go_in;go_wp2_with fail
 refine du G ?_;rintro w1 rfl;go_wp2
 go_end0;grind
def Oc(w w':aa)(eb o N n c:Nat)(T:TypeId)(ad:Option Addr)(bs:List Nat)(x:Nat)(E:Nat->Value):Prop:=
 ∃g c',Full w' eb T N N (eC E o (.slice (some ⟨g,0,none⟩) (n+1) c'))/\w'.ownsRow 0 5 1 (.slice (some ⟨g,0,none⟩) (n+1) c') (n+1) (iI (bs++[x]))/\dM (λk=>k=eb\/(Value.slice ad n c).ownBlock=some k) w w'/\((Value.slice ad n c).ownBlock=some g\/w.heap.size<=g)
def Cg(eb o N n c c' x:Nat)(T:TypeId)(ad aJ:Option Addr)(bs:List Nat)(E:Nat->Value)(w:aa)(hE:Full w eb T N N E)(ho:o+1<N)(he:E o=.slice ad n c)(aN:E (o+1)=.slice aJ 0 c')(Y:w.ownsRow 0 5 1 (.slice ad n c) n (iI bs))(hn:n<64)(ng:∀k,(Value.slice ad n c).ownBlock=some k->k≠eb): Calls prog 131 #[Pt eb o,.int .u8 (x:Int)] w λe w'=>e=.returned (.tuple #[])/\Oc w w' eb o N n c T ad bs x E:=by
 obtain⟨i0,hi,aA,a7,a6⟩:=info_parts Tryz.IB;obtain⟨c0,z0⟩:=hE.cells o ag;obtain⟨c1,z1⟩:=hE.cells (o+1) ho;rw[he]at c0;rw[aN]at c1;have le:=hE.lt;have a5:=gL eb (o+1) 0 c' aJ w c1;have aH:decide ((0:Nat)=0)=true:=rfl;rw[aH]at a5;have aC:=bj a5;have HE:=bj hE;have HR:=bj Y;have aI:=bj ng;have a8:(c<n+1/\((ad=none/\n=0/\c=0)\/∃g,ad=some ⟨g,0,none⟩))\/(n+1<=c/\∃kb,ad=some ⟨kb,0,none⟩):=by
  rcases Y.2 with⟨h,h0⟩|⟨g',c',aM,h1,_,_,h4,_⟩
  .grind
  injection h1 with a1 a2 a3;by_cases aL:n+1<=c
  .grind
  exact af ⟨ag,ah ⟨g',a1⟩⟩
 have hX:iI (bs++[x])=iI bs++[.int .u8 (x:Int)]:=by simp[iI]
 have HX:=bj hX;clear a5 aH hE Y ng hX;have Z:Hid (∀(w2:aa) (g W:Nat),w2.ownsRow 0 5 1 (.slice (some ⟨g,0,none⟩) (n+1) W) (n+1) (iI bs++[.int .u8 (x:Int)])->(w.alloc (.cells #[.int .u8 (x:Int)] 5)).grownBy w2 (Value.slice ad n c).ownBlock->((Value.slice ad n c).ownBlock=some g\/w.heap.size<=g)->g≠eb->Oc w (w2.setCell ⟨eb,o,none⟩ (.slice (some ⟨g,0,none⟩) (n+1) W)) eb o N n c T ad bs x E/\Full w2 eb T N N E):=λw2 g W hr hg hp J=>by
  have aF:Full w2 eb T N N E:=(HE.out.block (av _ _ _ le)).block (hg.block eb fH (λh=>aI.out eb h.symm rfl));refine⟨⟨g,W,aF.eC o _,?_,bp ?_ (af (af rfl)) _,hp⟩,aF⟩
  .rw[HX.out];exact dQ hr (λk h=>by
    have hk:k=g:=by injection h with h;exact h.symm
    grind[Below.heap_setCell])
  exact dM.trans (S1:=λk=>(Value.slice ad n c).ownBlock=some k) (gP (dw _ w) _) ⟨hg.os,hg.tape,hg.output,hg.size,λk hk hn=>hg.block k hk (λe=>hn e.symm)⟩ (λk h _=>ah h)
 have a9:Hid ((w.alloc (.cells #[.int .u8 (x:Int)] 5)).ownsRow 0 5 1 (.slice ad n c) n (iI bs)):=Co HR.out _;have a0:(w.alloc (.cells #[.int .u8 (x:Int)] 5)).heap[w.heap.size]? = some (.cells #[.int .u8 (x:Int)] 5 (0,0)):=bl w _;have aG:(w.alloc (.cells #[.int .u8 (x:Int)] 5)).cell? ⟨w.heap.size,0,none⟩=some (.int .u8 (x:Int)):=by simp only[World.cell?,a0];rfl
 have aD:Hid (∀j u,[Value.int .u8 (x:Int)][j]? = some u->(w.alloc (.cells #[.int .u8 (x:Int)] 5)).cell? ((⟨w.heap.size,0,none⟩:Addr).add j)=some u):=λj u hj=>by
  match j,hj with
  | 0,hj=>(simp at hj;subst hj;exact aG)
 have aB:n+1<=maxLen:=pY
 clear a0 aG;rcases a8 with⟨a4,hf⟩|⟨aE,kb,rfl⟩
 .rcases hf with⟨rfl,rfl,rfl⟩|⟨kb,rfl⟩
  .go_in;go_wp2_with fail
   refine aC.out.mono ?_;rintro e w1 ⟨rfl,rfl⟩;go_wp2_with (at_builtin;refine jq rfl (.tmp 32) (.tmp 34) 86 rfl 5 i0 (.int .u8 0) 1 1 Tryz.underlying86 hi aA a7 a6 rfl ek 0 none 0 0 (iI bs) rfl a9.out ⟨w1.heap.size,0,none⟩ 1 1 [.int .u8 (x:Int)] rfl rfl aD.out ?c2 aB ?c4 a4 ?_)
   try case c2=>intro u hu;simp at hu;subst hu;rfl
   try case c4=>omega
   intro v' w2 y G;obtain⟨g,W,rfl⟩:=ee y ag;have J:=(gZ y).1;have i:=Z.out w2 g W (gV y (dk _)) G (ah ag) ag;obtain⟨d0,e0⟩:=i.2.cells o ag;have H:=bj i.1;clear i y G J;go_wp2_with fail
   go_end0;exact⟨rfl,H.out⟩
  have aO:c=n:=by
   rcases HR.out.2 with⟨h,_⟩|⟨g',c',aM,h1,_,_,h4,_⟩
   .cases h
   injection h1 with a1 a2 a3;omega
  subst aO;go_in;go_wp2_with fail
  refine aC.out.mono ?_;rintro e w1 ⟨rfl,rfl⟩;go_wp2_with (at_builtin;refine jq rfl (.tmp 32) (.tmp 34) 86 rfl 5 i0 (.int .u8 0) 1 1 Tryz.underlying86 hi aA a7 a6 rfl ek 0 (some ⟨kb,0,none⟩) c c (iI bs) rfl a9.out ⟨w1.heap.size,0,none⟩ 1 1 [.int .u8 (x:Int)] rfl rfl aD.out ?c2 aB ?c4 a4 ?_)
  try case c2=>intro u hu;simp at hu;subst hu;rfl
  try case c4=>omega
  intro v' w2 y G;obtain⟨g,W,rfl⟩:=ee y ag;have J:=(gZ y).1;have i:=Z.out w2 g W (gV y (dk _)) (mN G kb) (ah ag) ag;obtain⟨d0,e0⟩:=i.2.cells o ag;have H:=bj i.1;clear i y G J;go_wp2_with fail
  go_end0;exact⟨rfl,H.out⟩
 go_in;go_wp2_with fail
 refine aC.out.mono ?_;rintro e w1 ⟨rfl,rfl⟩;go_wp2_with (at_builtin;refine nO rfl (.tmp 32) (.tmp 34) 86 rfl 0 5 i0 (.int .u8 0) 1 1 Tryz.underlying86 hi aA a7 a6 rfl ek kb c n (iI bs) rfl a9.out ⟨w1.heap.size,0,none⟩ 1 1 [.int .u8 (x:Int)] rfl rfl aD.out ?c2 aB ?c4 ?c5 aE ?_)
 try case c2=>intro u hu;simp at hu;subst hu;rfl
 try case c4=>omega
 try case c5=>omega
 intro w2 y G;have i:=Z.out w2 kb c y G (af rfl) (aI.out kb rfl);obtain⟨d0,e0⟩:=i.2.cells o ag;have H:=bj i.1;clear i y G;go_wp2_with fail
 go_end0;exact⟨rfl,H.out⟩
def Ch(eb o n c qb G sx x:Nat)(R:aa->Prop)(w:aa)(Y:w.cell? (ay eb (o+1))=some (dA qb (n+1) c))(h2:w.cell? (ay qb 0)=some (P0 G))(h3:w.cell? (ay G 4)=some (Fv 207 #[P0 sx]))(hx:x<256)(ly:G<w.heap.size)(le:eb<w.heap.size)(lq:qb<w.heap.size)(H:∀w1,w.grownBy w1 none->eL 207 #[vA (0,(x:Int)),P0 sx] w1 λw'=>R w'): eL 131 #[Pt eb o,dy x] w λw'=>R w':=by
 have i:=gL eb (o+1) (n+1) c (some (ay qb 0)) w Y;have u:decide ((n+1:Nat)=0)=false:=eB
 rw[u]at i;change Hid _ at i H;have HF:=bj (λ(w1:aa) (Z:w.grownBy w1 none)=>pQ eb (o+1) n c qb G w1 ((bd Z (a:=ay eb (o+1)) le).1.trans Y) ((bd Z (a:=ay qb 0) lq).1.trans h2));have a0:IntKind.i64.wrap (x:Int)=x:=jG _ ⟨ag,ag⟩;clear u;delta eL;go_in;go_wp2_with fail
 refine du i ?_;rintro w1 rfl;go_wp2
 go_region_with (first|(go_at_call 132;refine du (HF _ (by grind[aw,bo,ax])) ?_;rintro w2 rfl)|(go_at_call 61;refine du (fG _ _) ?_;rintro w2 rfl)|(go_at_call 207;refine du (H _ (by grind[aw,bo,ax])) λw4 y=>?_;have W:=bj y;clear y))
 all_goals
  go_wp2
  go_end0;exact⟨rfl,W⟩
structure NS(w:aa) (eb:Nat) (clk:Int) (U:Nat->Int) (xs:List Nat):Prop where
 le:eb<w.heap.size
 OE:w.cell? ⟨eb,28,none⟩=some (.int .i64 clk)
 none_:xs=[]->∃ad c,w.cell? ⟨eb,33,none⟩=some (.slice ad 0 c)
 some_:∀x r,xs=x :: r->∃zb c,w.cell? ⟨eb,33,none⟩=some (.slice (some ⟨zb,0,none⟩) (r.length+1) c)/\w.cell? ⟨zb,0,none⟩=some (P0 x)/\w.cell? ⟨x,5,none⟩=some (.int .i64 (U x))/\x<w.heap.size
def KU(eb:Nat)(clk:Int)(U:Nat->Int)(I:List Nat->aa->Prop)(xs:List Nat)(w:aa)(hI:I xs w)(HG:∀ys w1 w2,I ys w1->w1.grownBy w2 none->I ys w2)(HS:∀ys w1,I ys w1->NS w1 eb clk U ys)(HJ:∀x r w1,I (x :: r) w1->U x<=clk->eL 110 #[Pt eb 32,P0 x] w1 λw'=>I r w'): eL 67 #[P0 eb] w λw'=>I (xs.dropWhile (λx=>decide (U x<=clk))) w':=by
 have KI:=bj hI;have KG:=bj HG;have KS:=bj HS;have KJ:=bj HJ;clear hI HG HS HJ;delta eL;go_in;go_wp2_with fail
 go_loopg [] (xs.length) (λn wr=>∃ys:List Nat,ys.length=n/\Hid (I ys wr)/\Hid (ys.dropWhile (λx=>decide (U x<=clk))=xs.dropWhile (λx=>decide (U x<=clk))))
 case atStart=>exact⟨xs,rfl,KI,rfl⟩
 case round=>
  obtain⟨ys,Y,rI,rD⟩:=hrel;obtain⟨le,a2,o,u⟩:=KS.out ys wr rI.out
  cases ys with
  | nil=>
   obtain⟨ad,c,i⟩:=o rfl;have y:=λ(w':aa) (h:w'.cell? (ay eb 33)=some (.slice ad 0 c))=>gL eb 33 0 c ad w' h;simp only[decide_true]at y;have Z:=bj y;clear y o u;go_wp2_with fail
   go_quiet (first|(go_at_call 70;refine Calls.quiet_of_same (Z.out _ (by first|exact i|simpa using i))))
   go_wp2_with fail
   go_end0;refine⟨rfl,?_⟩;have:=rD.out;rw[<-this];exact KG.out _ _ _ rI.out (df (aw _ _) _)
  | cons x r=>
   obtain⟨zb,c,i,J,c5,lx⟩:=u x r rfl;have y:=λ(w':aa) (h:w'.cell? (ay eb 33)=some (dA zb (r.length+1) c))=>gL eb 33 (r.length+1) c (some (ay zb 0)) w' h;have hd:decide ((r.length+1:Nat)=0)=false:=eB
   simp only[hd]at y;have hF:=λ(w':aa) (h:w'.cell? (ay eb 33)=some (dA zb (r.length+1) c)) (h2:w'.cell? (ay zb 0)=some (P0 x))=>pQ eb 33 r.length c zb x w' h h2;have Z:=bj y;have G:=bj hF;clear y hF hd o u;by_cases H:U x<=clk
   .have a1:decide (U x<=clk)=true:=gG H
    have HU:=bj H;clear H;go_wp2_with fail
    go_quiet (first|(go_at_call 70;refine Calls.quiet_of_same (Z.out _ (by first|exact i|simpa using i)))|(go_at_call 132;refine Calls.quiet_of_same (G.out _ (by first|exact i|simpa using i) (by first|exact J|simpa using J))))
    go_wp2_with fail
    go_region_with (first|(go_at_call 132;refine(G.out _ ?_ ?_).mono ?_;exact i;exact J;rintro e w2 ⟨rfl,rfl⟩)|(go_at_call 110;refine(KJ.out x r _ ?_ HU.out).mono ?_;exact KG.out _ _ _ rI.out (bo (df (aw _ _) _));rintro e w4 ⟨rfl,W⟩;have a0:=bj W;clear W))
    all_goals
     go_wp2_with fail
     go_roundg (r.length)
     case measure=>first|omega|(simp at Y;omega)
     case rel=>
      refine⟨r,rfl,a0,?_⟩;have:=rD.out;rw[List.dropWhile_cons_of_pos (gG HU.out)]at this;exact this
   have a1:decide (U x<=clk)=false:=gG H
   have HU:=bj H;clear H;go_wp2_with fail
   go_quiet (first|(go_at_call 70;refine Calls.quiet_of_same (Z.out _ (by first|exact i|simpa using i)))|(go_at_call 132;refine Calls.quiet_of_same (G.out _ (by first|exact i|simpa using i) (by first|exact J|simpa using J))))
   go_wp2_with fail
   go_end0;refine⟨rfl,?_⟩;have:=rD.out;rw[<-this,List.dropWhile_cons_of_neg (gG HU.out)];exact KG.out _ _ _ rI.out (df (aw _ _) _)
