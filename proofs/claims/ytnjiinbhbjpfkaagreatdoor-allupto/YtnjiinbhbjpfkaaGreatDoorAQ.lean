import Derived.Test.YtnjiinbhbjpfkaaGreatDoorAF
import Derived.Test.YtnjiinbhbjpfkaaGreatDoorAD
import Derived.Test.YtnjiinbhbjpfkaaGreatDoorAG
import Derived.Test.YtnjiinbhbjpfkaaGreatDoorAH
set_option maxRecDepth 100000
set_option maxHeartbeats 0
set_option linter.all false
namespace Go.Proofs.YtnjiinbhbjpfkaaGreatDoor
open Go.RowKit Go.Proofs.Tryz
section
def sy(ok:Bool)(m:Nat):Int:=if ok=false then 4 else if m=20 then 5 else 0
theorem Nt(op a b c fb tb eb sb m ck ff:Nat)(x y i:B.V)(ok:Bool)(ao:Option Addr)(R:aa->Prop)(w:aa)(hb:∀w1,w.grownBy w1 none->dC 86 #[ee op a b c fb tb eb] w1 (vA x) λw'=>w1.grownBy w' none)(hf:∀w1,w.grownBy w1 none->dC 162 #[P0 sb,vA x] w1 (.tuple #[ah ff,vA i,.bool ok]) λw'=>w1.grownBy w' none)(hc:∀w1,w.grownBy w1 none->dC 94 #[ee op a b c fb tb eb] w1 (vA y) λw'=>w1.grownBy w' none)(he:ok=true->m≠20->∀w1,w.grownBy w1 none->eN 119 #[P0 eb,P0 tb,ah ff,vA y,vA i,.func (.func 149) #[ee op a b c fb tb eb] #[]] w1 λw'=>R w'/\∀k,w.heap.size<=k->k<w1.heap.size->w'.heap[k]?=w1.heap[k]?)(h0:∀w1,w.grownBy w1 none->(ok=false\/m=20)->R w1)(aB:w.cell? (az eb 27)=some (P0 sb))(c1:w.cell? (az tb 1)=some (.slice ao m ck)):dC 104 #[ee op a b c fb tb eb] w (ah<|sy ok m) λw'=>R w':=by
 have HB:=bj hb;have HF:=bj hf;have HC:=bj hc;have HE:=bj he;have H0:=bj h0;have le:=gT aB;have lt:=gT c1;clear hb hf hc he h0;delta dC;go_in;go_wp2_with fail
 have a8:=bj<|iU w op a b c fb tb eb;have a5:=bj<|aj w (.cells #[dz op,dz a,dz b,dz c,P0 fb,P0 tb,P0 eb] 186) none;generalize hW:w.alloc (.cells #[dz op,dz a,dz b,dz c,P0 fb,P0 tb,P0 eb] 186)=w1 at*;have aL:Hid (w1.heap.size=w.heap.size+1):=by show _=_;rw[<-hW];simp
 clear hW;have HK:Hid (∀w',w.grownBy w' none->w'.heap[w.heap.size]?=some (jF op a b c fb tb eb)->w'.cell? (az w.heap.size 0)=some (dz op)/\w'.cell? (az w.heap.size 1)=some (dz a)/\w'.cell? (az w.heap.size 2)=some (dz b)/\w'.cell? (az w.heap.size 3)=some (dz c)/\w'.cell? (az w.heap.size 4)=some (P0 fb)/\w'.cell? (az w.heap.size 5)=some (P0 tb)/\w'.cell? (az w.heap.size 6)=some (P0 eb)/\w'.cell? (az eb 27)=some (P0 sb)):=λw' hg hx=>by
  let⟨x0,x1,x2,x3,x4,x5,x6⟩:=fe hx;exact⟨x0,x1,x2,x3,x4,x5,x6,(ay hg (a:=az eb 27) le).1.trans aB⟩
 have a4:Hid (∀(w':aa) (B:Nat) (u v:Value),w.grownBy w' none->w'.heap[w.heap.size]?=some (jF op a b c fb tb eb)->w.heap.size<B->w.grownBy ((w'.setCell (az B 0) u).setCell (az B 1) v) none/\((w'.setCell (az B 0) u).setCell (az B 1) v).heap[w.heap.size]?=some (jF op a b c fb tb eb)):=λw' B u v hg hx hB=>
  ⟨bu (bu hg (ak<|jr hB) _) (ak<|jr hB) _,((ab _ _ _ _<|oX hB).trans<|ab _ _ _ _<|oX hB).trans hx⟩
 have aE:Hid (∀(w':aa) (B:Nat) (u v:Value) (hg:w.grownBy w' none) (hx:w'.heap[w.heap.size]?=some (jF op a b c fb tb eb)) (hB:w.heap.size<B),_):=λw' B u v hg hx hB=>HK _ (a4 w' B u v hg hx hB).1 (a4 w' B u v hg hx hB).2;have HZ:Hid (∀(w':aa) (o:Obj) (k:Nat) (o':Obj),w'.heap[k]?=some o'->(w'.alloc o).heap[k]?=some o'):=λw' o k o' hk=>by
  rw[au _ _ _<|ch hk];exact hk
 go_region_held3 (λw'=>w'.cell? (az w.heap.size 0)=some (dz op)/\w'.cell? (az w.heap.size 1)=some (dz a)/\w'.cell? (az w.heap.size 2)=some (dz b)/\w'.cell? (az w.heap.size 3)=some (dz c)/\w'.cell? (az w.heap.size 4)=some (P0 fb)/\w'.cell? (az w.heap.size 5)=some (P0 tb)/\w'.cell? (az w.heap.size 6)=some (P0 eb)/\w'.cell? (az eb 27)=some (P0 sb)) (first|exact HK _ (bo a5) a8|exact HK _ (ax (bo a5) _) (HZ _ _ _ _ a8)|exact HK _ a0 a3|exact HK _ (ax a0 _) (HZ _ _ _ _ a3)|exact HK _ W Y|exact HK _ (ax W _) (HZ _ _ _ _ Y)|exact aE G _ _ _ W Y a1|exact aE _ _ _ _ (ax W _) (HZ _ _ _ _ Y)<|ch Y) (first|(go_at_call 86;refine dq (HB w1.drew<|bo a5) λw2 a2=>?_;have a0:Hid (w.grownBy w2 none):=ar (bo a5) a2;have a3:=bj<|dw a2 (show w1.drew.heap[w.heap.size]?=_ from a8);clear a2)|(go_at_call 86;refine dq (HB (w1.drew.alloc<|.cells #[ah 0,ah 0] 149)<|ax (bo a5) _) λw2 a2=>?_;have a0:Hid (w.grownBy w2 none):=ar (ax (bo a5) _) a2;have a3:=bj<|dw a2<|HZ w1.drew _ _ _ a8;have aC:Hid (w2.heap[w1.heap.size]?=some (.cells #[ah 0,ah 0] 149 (0,0))):=dw a2<|bl w1.drew _;clear a2)|(go_at_call 162;refine dq (HF w2 a0) λG J=>?_;have W:Hid (w.grownBy G none):=ar a0 J;have Y:=bj<|dw J a3;have H:=dw J aC;have a1:Hid (w.heap.size<w1.heap.size):=(by show _<_;rw[aL.out];omega);have r0:G.cell? (az w1.heap.size 0)=some (ah 0):=(by simp[World.cell?,H]);have r1:G.cell? (az w1.heap.size 1)=some (ah 0):=(by simp[World.cell?,H]);have r2:G.frozen? (az w1.heap.size 0)=false:=(by simp[World.frozen?,H]);have r3:G.frozen? (az w1.heap.size 1)=false:=(by simp[World.frozen?,H]);have lB:=ch H;clear H;clear J)|(go_at_call 162;refine dq (HF w2 a0) λG J=>?_;have W:Hid (w.grownBy G none):=ar a0 J;have Y:=bj<|dw J a3;clear J)|(go_at_call 162;refine dq (HF (w2.alloc<|.cells #[ah 0,ah 0] 149)<|ax a0 _) λG J=>?_;have W:Hid (w.grownBy G none):=ar (ax a0 _) J;have Y:=bj<|dw J<|HZ w2 _ _ _ a3;have H:G.heap[w2.heap.size]?=some (.cells #[ah 0,ah 0] 149 (0,0)):=dw J<|bl w2 _;have a1:Hid (w.heap.size<w2.heap.size):=ch a3;have r0:G.cell? (az w2.heap.size 0)=some (ah 0):=(by simp[World.cell?,H]);have r1:G.cell? (az w2.heap.size 1)=some (ah 0):=(by simp[World.cell?,H]);have r2:G.frozen? (az w2.heap.size 0)=false:=(by simp[World.frozen?,H]);have r3:G.frozen? (az w2.heap.size 1)=false:=(by simp[World.frozen?,H]);have lB:=ch H;clear H;clear J))
 all_goals
  first
  |rename_i hh
   clear hh;have Z:Hid (w.grownBy (((G.setCell (az w2.heap.size 0)<|ah i.1).setCell (az w2.heap.size 1)<|ah i.2)) none):=(a4 G _ _ _ W Y a1).1;have a7:Hid ((((G.setCell (az w2.heap.size 0)<|ah i.1).setCell (az w2.heap.size 1)<|ah i.2)).heap[w.heap.size]?=some (jF op a b c fb tb eb)):=(a4 G _ _ _ W Y a1).2;have u0:(((G.setCell (az w2.heap.size 0)<|ah i.1).setCell (az w2.heap.size 1)<|ah i.2)).cell? (az w2.heap.size 0)=some (ah i.1):=by simp[go_sem,r0,r1,r2,r3,lB]
   have u1:(((G.setCell (az w2.heap.size 0)<|ah i.1).setCell (az w2.heap.size 1)<|ah i.2)).cell? (az w2.heap.size 1)=some (ah i.2):=by simp[go_sem,r0,r1,r2,r3,lB]
   clear r0 r1 r2 r3 lB;have lB:=gT u0;have a9:Hid (w.heap.size<=w2.heap.size):=jr a1;generalize ((G.setCell (az w2.heap.size 0)<|ah i.1).setCell (az w2.heap.size 1)<|ah i.2)=w4 at*;generalize w2.heap.size=B at*
  |rename_i hh
   clear hh;have Z:Hid (w.grownBy (((G.setCell (az w1.heap.size 0)<|ah i.1).setCell (az w1.heap.size 1)<|ah i.2)) none):=(a4 G _ _ _ W Y a1).1;have a7:Hid ((((G.setCell (az w1.heap.size 0)<|ah i.1).setCell (az w1.heap.size 1)<|ah i.2)).heap[w.heap.size]?=some (jF op a b c fb tb eb)):=(a4 G _ _ _ W Y a1).2;have u0:(((G.setCell (az w1.heap.size 0)<|ah i.1).setCell (az w1.heap.size 1)<|ah i.2)).cell? (az w1.heap.size 0)=some (ah i.1):=by simp[go_sem,r0,r1,r2,r3,lB]
   have u1:(((G.setCell (az w1.heap.size 0)<|ah i.1).setCell (az w1.heap.size 1)<|ah i.2)).cell? (az w1.heap.size 1)=some (ah i.2):=by simp[go_sem,r0,r1,r2,r3,lB]
   clear r0 r1 r2 r3 lB;have lB:=gT u0;have a9:Hid (w.heap.size<=w1.heap.size):=jr a1;generalize ((G.setCell (az w1.heap.size 0)<|ah i.1).setCell (az w1.heap.size 1)<|ah i.2)=w4 at*;generalize w1.heap.size=B at*
  |rename_i hh
   clear hh;have Z:Hid (w.grownBy ((G.alloc<|.cells #[ah i.1,ah i.2] 149)) none):=ax W _;have a7:Hid (((G.alloc<|.cells #[ah i.1,ah i.2] 149)).heap[w.heap.size]?=some (jF op a b c fb tb eb)):=HZ _ _ _ _ Y;have u0:((G.alloc<|.cells #[ah i.1,ah i.2] 149)).cell? (az G.heap.size 0)=some (ah i.1):=by simp[go_sem]
   have u1:((G.alloc<|.cells #[ah i.1,ah i.2] 149)).cell? (az G.heap.size 1)=some (ah i.2):=by simp[go_sem]
   have lB:=gT u0;have a9:Hid (w.heap.size<=G.heap.size):=W.size;generalize (G.alloc<|.cells #[ah i.1,ah i.2] 149)=w4 at*;generalize G.heap.size=B at*
 all_goals
  let⟨x0,x1,x2,x3,x4,x5,x6⟩:=fe a7;have lx:=ch a7;have d1:=(ay Z (a:=az tb 1) lt).1.trans c1;have aO:tb<w4.heap.size:=dm lt Z.size;have aN:eb<w4.heap.size:=dm le Z.size
  cases ok with
  |false=>
   go_wp2_with fail
   go_ret;exact⟨rfl,H0 _ Z<|ag<|by first|rfl|trivial⟩
  |true=>
   by_cases hm:m=20
   .have aM:(m:Int)=20:=af
    have HM:=bj hm;clear hm;go_wp2_with fail
    go_ret;exact⟨kh HM.out,H0 _ Z<|ak HM⟩
   have aM:¬((m:Int)=20):=af
   have HM:=bj hm;clear hm;go_wp2_with fail
   have HS:Hid (∀w',w4.grownBy w' none->w'.cell? (az w.heap.size 0)=some (dz op)/\w'.cell? (az w.heap.size 1)=some (dz a)/\w'.cell? (az w.heap.size 2)=some (dz b)/\w'.cell? (az w.heap.size 3)=some (dz c)/\w'.cell? (az w.heap.size 4)=some (P0 fb)/\w'.cell? (az w.heap.size 5)=some (P0 tb)/\w'.cell? (az w.heap.size 6)=some (P0 eb)/\w'.cell? (az B 0)=some (ah i.1)/\w'.cell? (az B 1)=some (ah i.2)):=λw' hg=>by
    let⟨x0,x1,x2,x3,x4,x5,x6⟩:=fe<|dw hg a7;exact⟨x0,x1,x2,x3,x4,x5,x6,(ay hg (a:=az B 0) lB).1.trans u0,(ay hg (a:=az B 1) lB).1.trans u1⟩
   have aD:Hid (∀w5 w':aa,w4.grownBy w5 none->(∀k,w.heap.size<=k->k<w5.heap.size->w'.heap[k]?=w5.heap[k]?)->w'.cell? (az w.heap.size 0)=some (dz op)/\w'.cell? (az w.heap.size 1)=some (dz a)/\w'.cell? (az w.heap.size 2)=some (dz b)/\w'.cell? (az w.heap.size 3)=some (dz c)/\w'.cell? (az w.heap.size 4)=some (P0 fb)/\w'.cell? (az w.heap.size 5)=some (P0 tb)/\w'.cell? (az w.heap.size 6)=some (P0 eb)/\w'.cell? (az B 0)=some (ah i.1)/\w'.cell? (az B 1)=some (ah i.2)):=λw5 w' hg hk=>by
    let⟨y0,y1,y2,y3,y4,y5,y6,y7,y8⟩:=HS w5 hg;have hz:=hg.size;have e1:=hk w.heap.size (bm _) af;have e2:=hk B a9 af;exact⟨(bd (a:=az w.heap.size 0) e1).trans y0,(bd (a:=az w.heap.size 1) e1).trans y1,(bd (a:=az w.heap.size 2) e1).trans y2,(bd (a:=az w.heap.size 3) e1).trans y3,(bd (a:=az w.heap.size 4) e1).trans y4,(bd (a:=az w.heap.size 5) e1).trans y5,(bd (a:=az w.heap.size 6) e1).trans y6,(bd (a:=az B 0) e2).trans y7,(bd (a:=az B 1) e2).trans y8⟩
   have aJ:=bj<|HS w4.drew<|bo<|aw _ _;go_region_held3 (λw'=>w'.cell? (az w.heap.size 0)=some (dz op)/\w'.cell? (az w.heap.size 1)=some (dz a)/\w'.cell? (az w.heap.size 2)=some (dz b)/\w'.cell? (az w.heap.size 3)=some (dz c)/\w'.cell? (az w.heap.size 4)=some (P0 fb)/\w'.cell? (az w.heap.size 5)=some (P0 tb)/\w'.cell? (az w.heap.size 6)=some (P0 eb)/\w'.cell? (az B 0)=some (ah i.1)/\w'.cell? (az B 1)=some (ah i.2)) (first|exact aJ|exact aK|exact aH) (first|(go_at_call 94;refine dq (HC w4.drew<|bo Z) λw5 a6=>?_;have aA:Hid (w4.grownBy w5 none):=⟨a6.os,a6.tape,a6.output,a6.size,a6.block⟩;have aK:=bj<|HS w5 aA;clear a6)|(go_at_call 119;refine dq (HE (by first|rfl|trivial) HM w5<|ar Z aA) ?_;rintro w6 ⟨aF,aG⟩;have aI:=bj aF;have aH:=bj<|aD w5 w6 aA aG;clear aF aG))
   all_goals
    go_wp2_with fail
    go_ret;exact⟨by have h:=HM.out;simp[sy,h],aI⟩
def NV(w w2:aa)(tb:Nat)(u:Int):Prop:=∃w1,w.grownBy w1 none/\w2=w1.setCell ⟨tb,5,none⟩ (.int .i64 u)/\w2.heap[w.heap.size]?=some (.cells #[P0 tb] 155 (0,0))
theorem J8(eb tb n sc:Nat)(sa:Option Addr)(clk x j:Int)(Tk:Nat->Value)(R:aa->Prop)(w:aa)(ne:eb≠tb)(a0:w.cell? (az eb 28)=some (ah clk))(a3:w.cell? (az eb 33)=some (.slice sa n sc))(hT:Full w tb 160 7 7 Tk)(c0:0<=clk)(c1:clk<=9223372036854775807)(HI:∀w2 u,NV w w2 tb (B.iL clk x)->w2.grownBy u none->dC 205 #[.slice sa n sc,Fv 204 #[P0 w.heap.size]] u (ah j) λw'=>u.grownBy w' none)(HN:∀w2 u,NV w w2 tb (B.iL clk x)->w2.grownBy u none->eN 166 #[Pt eb 33,ah (if j<0 then(n:Int) else j),P0 tb] u λw'=>R w'/\w'.heap[w.heap.size]?=some (.cells #[P0 tb] 155 (0,0))):eN 168 #[P0 eb,P0 tb,ah x] w λw'=>R w':=by
 have aI:=bj HI;have H:=bj HN;have le:=gT a0;have lt:=hT.lt;have KT:=bj hT;have HC:=bj<|bh c0 c1;clear HI HN hT c0 c1;delta eN;go_in;go_wp2_with fail
 have J:=bj<|aj w (.cells #[P0 tb] 155) none;have hx:=bl w<|.cells #[P0 tb] 155;have aD:(w.alloc<|.cells #[P0 tb] 155).heap.size=w.heap.size+1:=eG
 generalize hW:w.alloc (.cells #[P0 tb] 155)=w1 at*;have x0:w1.cell? (az (fp w) 0)=some (P0 tb):=fj hx
 have HX:=bj hx;clear hW hx;have a4:=bj<|KT.out.block<|J.out.block tb lt je;have G:=(ay J.out (a:=az eb 28) le).1.trans a0;have Y:=(ay J.out (a:=az eb 33) le).1.trans a3;let⟨d5,z5⟩:=a4.out.cells 5 af;generalize Tk 5=y5 at d5;have aN:eb<w1.heap.size:=af
 have aM:=a4.out.lt;have a8:w.heap.size≠tb:=af
 have aJ:¬tb=w.heap.size:=af
 have aB:=bj<|λw' h=>xk eb clk x w' h HC.out.1 HC.out.2;have aF:=bj ne;clear a0 a3;go_region_with (go_at_call 64;refine dq (aB.out _<|by first|exact G|(show w1.cell? _=_;exact G)) ?_;rintro w2 rfl)
 all_goals
  have a9:NV w (w1.setCell (az tb 5)<|ah<|B.iL clk x) tb (B.iL clk x):=⟨w1,J.out,rfl,(ab _ _ _ _ a8).trans HX.out⟩;have a2:=bj a9;have a6:(w1.setCell (az tb 5)<|ah<|B.iL clk x).cell? (az eb 33)=some (.slice sa n sc):=by rw[bd (a:=az eb 33)<|ab _ _ _ _ aF.out];exact Y
  have x2:(w1.setCell (az tb 5)<|ah<|B.iL clk x).cell? (az (fp w) 0)=some (P0 tb):=by rw[bd (a:=az (fp w) 0)<|ab _ _ _ _ a8];exact x0
  have aC:(w1.setCell (az tb 5)<|ah<|B.iL clk x).heap.size=w1.heap.size:=by simp[World.setCell]
  generalize aG:w1.setCell (az tb 5) (ah<|B.iL clk x)=w2 at*;have aA:eb<w2.heap.size:=af
  have a5:w.heap.size<w2.heap.size:=af
  clear aG G d5 z5 Y x0 aB a9 aC aD;go_wp2_with fail
  refine dq (aI.out w2 _ a2.out<|bo<|aw w2 none) λu W=>?_;have o:=ar (bo<|aw w2 none) W;clear W;have a7:=bj o;have aK:=(ay o (a:=az eb 33) aA).1.trans a6;have x3:=(ay o (a:=az (fp w) 0) a5).1.trans x2;have aO:=dm aA o.size;have aL:=dm a5 o.size;clear o a6 x2;by_cases Z:j<0
  .have HJ:=bj Z;rw[bf Z]at H;have aH:decide (j<0)=true:=iE Z
   clear Z;go_wp2_with fail
   go_region_with (go_at_call 166;refine dq (H.out w2 u.drew a2.out<|bo a7.out) ?_;rintro w4 ⟨y,i⟩;have a1:=bj y;clear y i)
   all_goals
    go_wp2_with fail
    go_end0;exact⟨rfl,a1.out⟩
  have HJ:=bj Z;rw[av Z]at H;have aH:decide (j<0)=false:=iE Z
  clear Z;go_wp2_with fail
  go_region_with (go_at_call 166;refine dq (H.out w2 u.drew a2.out<|bo a7.out) ?_;rintro w4 ⟨y,i⟩;have a1:=bj y;clear y i)
  all_goals
   go_wp2_with fail
   go_end0;exact⟨rfl,a1.out⟩
theorem H7(op a b c fb tb eb:Nat)(z:Int)(w:aa)(o:∀w1,w.grownBy w1 none->dC 130 #[P0 eb,ah z] w1 (.tuple #[.pointer none,.bool false]) λw'=>w'=w1):dC 116 #[ee op a b c fb tb eb,ah z] w (ah 8) λw'=>w.grownBy w' none:=by
 have i:=bj o;delta dC;go_in;go_wp2_with fail
 refine dq (i _<|aj _ _ _) ?_;rintro w2 rfl;go_wp2
 go_ret;simp[aj]
theorem CX(op a b c fb tb eb o x:Nat)(z:Int)(hx:x<256)(R1 R:aa->Prop)(w:aa)(H1:∀w1,w.grownBy w1 none->dC 130 #[P0 eb,ah z] w1 (.tuple #[Pt eb o,.bool true]) λw'=>w'=w1)(H2:∀w1,w.grownBy w1 none->dC 174 #[Pt eb o] w1 (.tuple #[dz x,.bool true]) λw'=>R1 w'/\(∀k,w.heap.size<=k->k<w1.heap.size->w'.heap[k]?=w1.heap[k]?))(H3:∀w1 w2,R1 w1->w1.grownBy w2 none->eN 149 #[ee op a b c fb tb eb,vA (0,(x:Int))] w2 λw'=>R w'/\(∀k,w.heap.size<=k->k<w2.heap.size->w'.heap[k]?=w2.heap[k]?)):dC 116 #[ee op a b c fb tb eb,ah z] w (ah 0) λw'=>R w':=by
 have a4:=bj H1;have a0:=bj H2;have a5:=bj H3;have a7:IntKind.i64.wrap (x:Int)=x:=by simp[IntKind.wrap,IntKind.bits,IntKind.signed];omega
 delta dC;go_in;go_wp2_with fail
 have H:=bj<|iU w op a b c fb tb eb;have Z:=bj<|aj w (.cells #[dz op,dz a,dz b,dz c,P0 fb,P0 tb,P0 eb] 186) none;generalize hW:w.alloc (.cells #[dz op,dz a,dz b,dz c,P0 fb,P0 tb,P0 eb] 186)=w1 at*;refine dq (a4 w1 Z) ?_;rintro w2 rfl;go_wp2_with fail
 refine dq (a0 w2 Z) ?_;rintro y ⟨Y,J⟩;have a1:=bj Y;have i:=bj<|(J (fp w) (bm _)<|ch H).trans H;go_wp2_with fail
 have u:Hid ((gG y.drew #[ah 0,ah x] 149).heap[fp w]?=some (jF op a b c fb tb eb)):=(au y.drew _ _ (show w.heap.size<y.drew.heap.size from(ch i))).trans i;go_region_held3 (λw'=>dW w' (fp w) 0=some (dz op)/\dW w' (fp w) 1=some (dz a)/\dW w' (fp w) 2=some (dz b)/\dW w' (fp w) 3=some (dz c)/\dW w' (fp w) 4=some (P0 fb)/\dW w' (fp w) 5=some (P0 tb)/\dW w' (fp w) 6=some (P0 eb)) (first|exact fe (show y.drew.heap[fp w]?=_ from i)|exact fe u|exact fe a3) (first|(go_at_call 61;refine dq (fK _ _) ?_;rintro w7 rfl)|(go_at_call 149;refine dq (a5 y _ a1<|ax (bo<|aw _ _) _) ?_;rintro w8 ⟨W,G⟩;have a2:=bj W;have a3:=bj<|(G (fp w) (bm _)<|ch u).trans u;clear W G))
 all_goals
  go_wp2
  go_ret;exact⟨rfl,a2⟩
theorem CW(op a b c fb tb eb o:Nat) (z:Int) (R:aa->Prop) (w:aa) (le:eb<w.heap.size) (H1:∀ w1,w.grownBy w1 none->Calls prog 130 #[P0 eb,ah z] w1 fun e w'=>e=.returned (.tuple #[Pt eb o,.bool true])/\w'=w1)
    (H2:∀ w1,w.grownBy w1 none->Calls prog 174 #[Pt eb o] w1 fun e w'=>e=.returned (.tuple #[dz 0,.bool false])/\w'=w1)
    (H3:∀ w1,w.grownBy w1 none->Calls prog 171 #[ee op a b c fb tb eb,Pt eb<|o+1] w1 fun e w'=>e=.returned (.tuple #[])/\R w') :
    Calls prog 116 #[ee op a b c fb tb eb,ah z] w fun e w'=>e=.returned (ah 0)/\R w':=by
  have HH1:=bj H1
  have HH2:=bj H2
  have HH3:=bj H3
  go_in
  go_wp2_with fail
  have HX1:=bj<|iU w op a b c fb tb eb
  have KG1:=bj<|aj w (.cells #[dz (op:Int),dz (a:Int),dz (b:Int),dz (c:Int),P0 fb,P0 tb,P0 eb] 186) none
  generalize hW:w.alloc (.cells #[dz (op:Int),dz (a:Int),dz (b:Int),dz (c:Int),P0 fb,P0 tb,P0 eb] 186)=w1 at*
  refine dq (HH1 w1 KG1) ?_;rintro w2  rfl
  go_wp2_with fail
  refine dq (HH2 w2 KG1) ?_;rintro w3  rfl
  obtain⟨x0,x1,x2,x3,x4,x5,x6⟩:=fe HX1
  go_wp2_with fail
  first
    | (refine dq (HH3 w3 KG1) ?_;rintro w4  hR4
       have HR4:=bj hR4
       go_wp2
       go_ret
       exact⟨rfl,HR4⟩)
    | (go_region_with (go_at_call 171;refine(HH3 w3.drew<|bo KG1).mono ?_;rintro e w4 ⟨rfl,hR4⟩;have HR4:=bj hR4;clear hR4)
       all_goals
         go_wp2
         go_ret
         exact⟨rfl,HR4⟩)
theorem C9(op a b c fb tb eb vbx:Nat) (S:Int->Bool->aa->Prop) (R:aa->Prop) (w:aa) (hv:w.cell? ⟨vbx,0,none⟩=some (Fv 100 #[]))
    (H1:∀ w1,w.grownBy w1 none->w1.heap[w.heap.size]?=some (jF op a b c fb tb eb)->Calls prog 100 #[ee op a b c fb tb eb] w1 fun e w2=>∃ (x:Int) (o:Bool),e=.returned (.tuple #[.agg #[ah x,ah 0],.bool o])/\S x o w2/\w2.heap[w.heap.size]?=some (jF op a b c fb tb eb))
    (H2:∀ x w2 w3,S x true w2->w2.grownBy w3 none->Calls prog 149 #[ee op a b c fb tb eb,.agg #[ah x,ah 0]] w3 fun e w'=>e=.returned (.tuple #[])/\R w')
    (H3:∀ x w2 w3,S x false w2->w2.grownBy w3 none->Calls prog 156 #[P0 eb,P0 tb] w3 fun e w'=>e=.returned (.tuple #[])/\R w') :
    Calls prog 155 #[ee op a b c fb tb eb,P0 vbx] w fun e w'=>e=.returned (.tuple #[])/\R w':=by
  have HH1:=bj H1
  have HH2:=bj H2
  have HH3:=bj H3
  have lv:=gT hv
  go_in
  go_wp2_with fail
  have KG1:=bj<|aj w (.cells #[dz (op:Int),dz (a:Int),dz (b:Int),dz (c:Int),P0 fb,P0 tb,P0 eb] 186) none
  have HX1:=bj<|iU w op a b c fb tb eb
  generalize hW:w.alloc (.cells #[dz (op:Int),dz (a:Int),dz (b:Int),dz (c:Int),P0 fb,P0 tb,P0 eb] 186)=w1 at*
  refine(HH1 w1 KG1 HX1).mono ?_
  rintro e w2 ⟨x,o,rfl,hS2,hX2⟩
  have HS2:=bj hS2
  have HX2:=bj hX2
  obtain⟨x0,x1,x2,x3,x4,x5,x6⟩:=fe HX2
  have lx:=ch HX2
  cases o with
  |true=>
    go_wp2_with fail
    refine dq (HH2 x w2 _ HS2<|aj _ _ _) ?_;rintro w3  hR3
    have HR3:=bj hR3
    go_wp2
    go_end0
    exact⟨rfl,HR3⟩
  |false=>
    go_wp2_with fail
    first
      | (refine dq (HH3 x w2 _ HS2<|aj _ _ _) ?_;rintro w3  hR3
         have HR3:=bj hR3
         go_wp2
         go_end0
         exact⟨rfl,HR3⟩)
      |trace_state
theorem xg(op a b c fb tb eb vbx wb:Nat) (R:aa->Prop) (w:aa) (hw:w.cell? ⟨wb,0,none⟩=some (Fv 155 #[P0 vbx]))
    (H:∀ w1,w.grownBy w1 none->Calls prog 155 #[ee op a b c fb tb eb,P0 vbx] w1 fun e w'=>e=.returned (.tuple #[])/\R w') :
    Calls prog 163 #[ee op a b c fb tb eb,P0 wb] w fun e w'=>e=.returned (ah 0)/\R w':=by
  have HH:=bj H
  have lw:=gT hw
  go_in
  go_wp2_with fail
  first
    | (refine dq (HH _<|aj _ _ _) ?_;rintro w2  hR2
       have HR2:=bj hR2
       go_wp2
       go_ret
       simp_all)
    |trace_state
theorem C8(op a b c fb tb eb vbx:Nat) (S:Int->Bool->aa->Prop) (R:aa->Prop) (w:aa) (hv:w.cell? ⟨vbx,0,none⟩=some (Fv 103 #[]))
    (H1:∀ w1,w.grownBy w1 none->w1.heap[w.heap.size]?=some (jF op a b c fb tb eb)->Calls prog 103 #[ee op a b c fb tb eb] w1 fun e w2=>∃ (x:Int) (o:Bool),e=.returned (.tuple #[.agg #[ah x,ah 0],.bool o])/\S x o w2/\w2.heap[w.heap.size]?=some (jF op a b c fb tb eb))
    (H2:∀ x w2 w3,S x true w2->w2.grownBy w3 none->Calls prog 149 #[ee op a b c fb tb eb,.agg #[ah x,ah 0]] w3 fun e w'=>e=.returned (.tuple #[])/\R w')
    (H3:∀ x w2 w3,S x false w2->w2.grownBy w3 none->Calls prog 156 #[P0 eb,P0 tb] w3 fun e w'=>e=.returned (.tuple #[])/\R w') :
    Calls prog 155 #[ee op a b c fb tb eb,P0 vbx] w fun e w'=>e=.returned (.tuple #[])/\R w':=by
  have HH1:=bj H1
  have HH2:=bj H2
  have HH3:=bj H3
  have lv:=gT hv
  go_in
  go_wp2_with fail
  have KG1:=bj<|aj w (.cells #[dz (op:Int),dz (a:Int),dz (b:Int),dz (c:Int),P0 fb,P0 tb,P0 eb] 186) none
  have HX1:=bj<|iU w op a b c fb tb eb
  generalize hW:w.alloc (.cells #[dz (op:Int),dz (a:Int),dz (b:Int),dz (c:Int),P0 fb,P0 tb,P0 eb] 186)=w1 at*
  refine(HH1 w1 KG1 HX1).mono ?_
  rintro e w2 ⟨x,o,rfl,hS2,hX2⟩
  have HS2:=bj hS2
  have HX2:=bj hX2
  obtain⟨x0,x1,x2,x3,x4,x5,x6⟩:=fe HX2
  have lx:=ch HX2
  cases o with
  |true=>
    go_wp2_with fail
    refine dq (HH2 x w2 _ HS2<|aj _ _ _) ?_;rintro w3  hR3
    have HR3:=bj hR3
    go_wp2
    go_end0
    exact⟨rfl,HR3⟩
  |false=>
    go_wp2_with fail
    first
      | (refine dq (HH3 x w2 _ HS2<|aj _ _ _) ?_;rintro w3  hR3
         have HR3:=bj hR3
         go_wp2
         go_end0
         exact⟨rfl,HR3⟩)
      |trace_state
theorem CU(eb o n c H x:Nat)(ad y:Option Addr)(w:aa)(Y:w.cell? (az eb o)=some (.slice ad n c))(J:w.cell? (az eb<|o+1)=some (.slice y 0 H))(hn:64<=n)(W:n<=1000):eN 131 #[Pt eb o,dz x] w λw'=>w'=w:=by
 have i:=gS eb (o+1) 0 H y w J;have u:decide ((0:Nat)=0)=true:=rfl;rw[u]at i;have G:=bj i;delta eN;go_in;go_wp2_with fail
 refine dq G ?_;rintro w1 rfl;go_wp2
 go_end0;grind
def Pj(w w':aa)(eb o N n c:Nat)(T:TypeId)(ad:Option Addr)(bs:List Nat)(x:Nat)(E:Nat->Value):Prop:=
 ∃g c',Full w' eb T N N (eE E o<|.slice (some ⟨g,0,none⟩) (n+1) c')/\w'.ownsRow 0 5 1 (.slice (some ⟨g,0,none⟩) (n+1) c') (n+1) (iR<|bs++[x])/\dN (λk=>k=eb\/(Value.slice ad n c).ownBlock=some k) w w'/\((Value.slice ad n c).ownBlock=some g\/w.heap.size<=g)
theorem CR(eb o N n c c' x:Nat)(T:TypeId)(ad aJ:Option Addr)(bs:List Nat)(E:Nat->Value)(w:aa)(hE:Full w eb T N N E)(ho:o+1<N)(he:E o=.slice ad n c)(aN:E (o+1)=.slice aJ 0 c')(Y:w.ownsRow 0 5 1 (.slice ad n c) n (iR bs))(hn:n<64)(ng:∀k,(Value.slice ad n c).ownBlock=some k->k≠eb):Calls prog 131 #[Pt eb o,.int .u8 (x:Int)] w λe w'=>e=.returned (.tuple #[])/\Pj w w' eb o N n c T ad bs x E:=by
 let⟨i0,hi,aA,a7,a6⟩:=info_parts Tryz.Jx;let⟨c0,z0⟩:=hE.cells o af;let⟨c1,z1⟩:=hE.cells (o+1) ho;rw[he]at c0;rw[aN]at c1;have le:=hE.lt;have a5:=gS eb (o+1) 0 c' aJ w c1;have aH:decide ((0:Nat)=0)=true:=rfl;rw[aH]at a5;have aC:=bj a5;have HE:=bj hE;have HR:=bj Y;have aI:=bj ng;have a8:(c<n+1/\((ad=none/\n=0/\c=0)\/∃g,ad=some ⟨g,0,none⟩))\/(n+1<=c/\∃kb,ad=some ⟨kb,0,none⟩):=by
  rcases Y.2 with⟨h,h0⟩|⟨g',c',aM,h1,_,_,h4,_⟩
  .grind
  injection h1 with a1 a2 a3;by_cases aL:n+1<=c
  .grind
  exact ag ⟨af,ak ⟨g',a1⟩⟩
 have hX:iR (bs++[x])=iR bs++[.int .u8 (x:Int)]:=by simp[iR]
 have HX:=bj hX;clear a5 aH hE Y ng hX;have Z:Hid (∀(w2:aa) (g W:Nat),w2.ownsRow 0 5 1 (.slice (some ⟨g,0,none⟩) (n+1) W) (n+1) (iR bs++[.int .u8 (x:Int)])->(gG w #[.int .u8 (x:Int)] 5).grownBy w2 (Value.slice ad n c).ownBlock->((Value.slice ad n c).ownBlock=some g\/w.heap.size<=g)->g≠eb->Pj w (iA w2 eb o<|.slice (some ⟨g,0,none⟩) (n+1) W) eb o N n c T ad bs x E/\Full w2 eb T N N E):=λw2 g W hr hg hp J=>by
  have aF:Full w2 eb T N N E:=(HE.block<|au _ _ _ le).block<|hg.block eb fV<|λh=>aI eb h.symm rfl;refine⟨⟨g,W,aF.eE o _,?_,bq ?_ (ag<|ag rfl) _,hp⟩,aF⟩
  .rw[HX.out];exact dS hr (λk h=>by
    have hk:k=g:=by injection h with h;exact h.symm
    grind[Below.heap_setCell])
  exact dN.trans (S1:=λk=>(Value.slice ad n c).ownBlock=some k) (gV (dx _ w) _) ⟨hg.os,hg.tape,hg.output,hg.size,λk hk hn=>hg.block k hk<|λe=>hn e.symm⟩<|λk h _=>ak h
 have a9:Hid ((gG w #[.int .u8 (x:Int)] 5).ownsRow 0 5 1 (.slice ad n c) n<|iR bs):=C0 HR _;have a0:(gG w #[.int .u8 (x:Int)] 5).heap[fp w]?=ny #[.int .u8 (x:Int)] 5:=bl w _;have aG:(gG w #[.int .u8 (x:Int)] 5).cell? ⟨w.heap.size,0,none⟩=some (.int .u8 (x:Int)):=by simp only[World.cell?,a0];rfl
 have aD:Hid (∀j u,[Value.int .u8 (x:Int)][j]?=some u->(gG w #[.int .u8 (x:Int)] 5).cell? ((⟨w.heap.size,0,none⟩:Addr).add j)=some u):=λj u hj=>by
  match j,hj with
  |0,hj=>(simp at hj;subst hj;exact aG)
 have aB:n+1<=maxLen:=pY
 clear a0 aG;rcases a8 with⟨a4,hf⟩|⟨aE,kb,rfl⟩
 .rcases hf with⟨rfl,rfl,rfl⟩|⟨kb,rfl⟩
  .go_in;go_wp2_with fail
   refine aC.mono ?_;rintro e w1 ⟨rfl,rfl⟩;go_wp2_with (at_builtin;refine jD rfl (.tmp 32) (.tmp 34) 86 rfl 5 i0 (.int .u8 0) 1 1 Tryz.underlying86 hi aA a7 a6 rfl eo 0 none 0 0 (iR bs) rfl a9 ⟨w1.heap.size,0,none⟩ 1 1 [.int .u8 (x:Int)] rfl rfl aD ?c2 aB ?c4 a4 ?_)
   try case c2=>intro u hu;simp at hu;subst hu;rfl
   try case c4=>omega
   intro v' w2 y G;obtain⟨g,W,rfl⟩:=ef y af;have J:=(ik y).1;have i:=Z w2 g W (ib y<|di _) G (ak af) af;let⟨d0,e0⟩:=i.2.cells o af;have H:=bj i.1;clear i y G J;go_wp2_with fail
   go_end0;exact⟨rfl,H⟩
  have aO:c=n:=by
   rcases HR.2 with⟨h,_⟩|⟨g',c',aM,h1,_,_,h4,_⟩
   .cases h
   injection h1 with a1 a2 a3;omega
  subst aO;go_in;go_wp2_with fail
  refine aC.mono ?_;rintro e w1 ⟨rfl,rfl⟩;go_wp2_with (at_builtin;refine jD rfl (.tmp 32) (.tmp 34) 86 rfl 5 i0 (.int .u8 0) 1 1 Tryz.underlying86 hi aA a7 a6 rfl eo 0 (some ⟨kb,0,none⟩) c c (iR bs) rfl a9 ⟨w1.heap.size,0,none⟩ 1 1 [.int .u8 (x:Int)] rfl rfl aD ?c2 aB ?c4 a4 ?_)
  try case c2=>intro u hu;simp at hu;subst hu;rfl
  try case c4=>omega
  intro v' w2 y G;obtain⟨g,W,rfl⟩:=ef y af;have J:=(ik y).1;have i:=Z w2 g W (ib y<|di _) (m9 G kb) (ak af) af;let⟨d0,e0⟩:=i.2.cells o af;have H:=bj i.1;clear i y G J;go_wp2_with fail
  go_end0;exact⟨rfl,H⟩
 go_in;go_wp2_with fail
 refine aC.mono ?_;rintro e w1 ⟨rfl,rfl⟩;go_wp2_with (at_builtin;refine oc rfl (.tmp 32) (.tmp 34) 86 rfl 0 5 i0 (.int .u8 0) 1 1 Tryz.underlying86 hi aA a7 a6 rfl eo kb c n (iR bs) rfl a9 ⟨w1.heap.size,0,none⟩ 1 1 [.int .u8 (x:Int)] rfl rfl aD ?c2 aB ?c4 ?c5 aE ?_)
 try case c2=>intro u hu;simp at hu;subst hu;rfl
 try case c4=>omega
 try case c5=>omega
 intro w2 y G;have i:=Z w2 kb c y G (ag rfl)<|aI kb rfl;let⟨d0,e0⟩:=i.2.cells o af;have H:=bj i.1;clear i y G;go_wp2_with fail
 go_end0;exact⟨rfl,H⟩
theorem CT(eb o n c qb G sx x:Nat)(R:aa->Prop)(w:aa)(Y:w.cell? (az eb<|o+1)=some (dD qb (n+1) c))(h2:w.cell? (az qb 0)=some (P0 G))(h3:w.cell? (az G 4)=some (Fv 207 #[P0 sx]))(hx:x<256)(ly:G<w.heap.size)(le:eb<w.heap.size)(lq:qb<w.heap.size)(H:∀w1,w.grownBy w1 none->eN 207 #[vA (0,(x:Int)),P0 sx] w1 λw'=>R w'):eN 131 #[Pt eb o,dz x] w λw'=>R w':=by
 have i:=gS eb (o+1) (n+1) c (some<|az qb 0) w Y;have u:decide ((n+1:Nat)=0)=false:=eG
 rw[u]at i;change Hid _ at i H;have HF:=bj<|λ(w1:aa) (Z:iY w w1)=>qx eb (o+1) n c qb G w1 ((ay Z (a:=az eb<|o+1) le).1.trans Y)<|(ay Z (a:=az qb 0) lq).1.trans h2;have a0:IntKind.i64.wrap (x:Int)=x:=jf _ ⟨af,af⟩;clear u;delta eN;go_in;go_wp2_with fail
 refine dq i ?_;rintro w1 rfl;go_wp2
 go_region_with (first|(go_at_call 132;refine dq (HF _<|by grind[aw,bo,ax]) ?_;rintro w2 rfl)|(go_at_call 61;refine dq (fK _ _) ?_;rintro w2 rfl)|(go_at_call 207;refine dq (H _<|by grind[aw,bo,ax]) λw4 y=>?_;have W:=bj y;clear y))
 all_goals
  go_wp2
  go_end0;exact⟨rfl,W⟩
