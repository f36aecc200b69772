import Derived.Test.YtnjiinbhbjpfkaaGreatDoorAC
import Derived.Test.YtnjiinbhbjpfkaaGreatDoorAR
set_option maxRecDepth 100000
set_option maxHeartbeats 0
set_option linter.all false
namespace Go.Proofs.YtnjiinbhbjpfkaaGreatDoor
open Go.RowKit Go.Proofs.Tryz
section
def pf.below{w w':aa}(h:pf w)(i:Below w.heap.size w w'):pf w':=
 ⟨dm h.1 i.size,λe o=>(i.cell (p:=az 0 e) h.1).trans<|h.2 e o⟩
def Tryz.FO:(prog.info? 228).map (λi=>(i.zero,i.size,i.bytes))=some (some<|.agg #[dz 0,ah 0,.slice none 0 0],3,40):=by kernel_rfl
theorem yl(n eb:Nat)(hn:1<=n)(a1:n<=200)(w:aa):Calls prog 58 #[ah n,.func (.func 59) #[P0 eb] #[]] w λe w'=>∃sb pb,e=.returned (P0 sb)/\w.grownBy w' none/\w.heap.size<=sb/\w.heap.size<=pb/\kG w' sb pb eb n B.tX Co (λ_=>[]):=by
 let⟨i0,hi,W,H,G⟩:=info_parts Tryz.FO;go_in;go_wp2_with (at_make;go_loud (refine wpList_make_full _ rfl _ _ 204 rfl 0 228 i0 _ 3 underlying204 hi W H _ _ _ _ n rfl rfl rfl rfl ey pY (di _) ?_))
 intro J i o;have u:Full J (fp w) 228 (n*3) (n*3) (jT (λ_=>false) (λ_=>0)<|λ_=>[]):=by
  rcases i.2 with⟨h,_⟩|⟨g',a0,y,h1,h2,h3,h4,h5,h6,h7⟩
  .cases h
  cases h1;refine⟨y,h3,h6,λj Z=>?_⟩;have Y:=congrArg (λl=>l[j]?) h7;have e2:(madeCells #[dz 0,ah 0,.slice none 0 0]<|n*3).toList[j]?=some (jT (λ_=>false) (λ_=>0) (λ_=>[]) j):=by
   simp only[madeCells,Array.getElem?_toList,Array.getElem?_map,Array.getElem?_range];rw[bf Z];have:j%3=0\/j%3=1\/j%3=2:=by omega
   rcases this with h|h|h<;>simp[h,jT,vT,qg]
  simp only[e2,dP]at Y;rw[bf Z]at Y;simpa using Y
 have HF:=bj u;have HG:=bj o;go_wp2
 go_ret;refine⟨J.heap.size,w.heap.size,rfl,ax HG _,HG.size,bm _,⟨(bl J<|.cells #[dD (fp w) n n,.func (.func 59) #[P0 eb] #[],.pointer none,ah 0,ah 0,ah 0] 207).trans (by simp[An,B.tX,wrap64]),⟨HF.block<|au _ _ _ HF.lt,λp _ _ h=>(by cases h),λp q _ _ _ _ h=>(by cases h),λp h=>(by cases h)⟩,λc h=>(by cases h)⟩⟩
def zY(fs:Value)(q wk t:Int)(b:Nat):Array Value:=#[fs,.int .i64 q,.int .i64 wk,.int .i64 t,Fv 163 #[P0<|b+2],Fv 163 #[P0<|b+4],Fv 151 #[P0<|b+5],Fv 151 #[P0<|b+6],Fv 151 #[P0<|b+7],Fv 151 #[P0<|b+8],Fv 163 #[P0<|b+10],Fv 163 #[P0<|b+12],Fv 163 #[P0<|b+14],Fv 163 #[P0<|b+16],Fv 101 #[],Fv 102 #[],Fv 163 #[P0<|b+18],Fv 104 #[],Fv 163 #[P0<|b+19],Fv 108 #[],Fv 163 #[P0<|b+20],Fv 167 #[P0<|b+21,P0<|b+22],Fv 167 #[P0<|b+23,P0<|b+24],Fv 167 #[P0<|b+25,P0<|b+26],Fv 167 #[P0<|b+27,P0<|b+28],Fv 167 #[P0<|b+29,P0<|b+30],Fv 163 #[P0<|b+32],.pointer none,.int .i64 0,.slice none 0 0,.slice none 0 0,.slice none 0 0,.slice none 0 0,.slice none 0 0,.slice none 0 0,.slice none 0 0,.slice none 0 0,.slice none 0 0,.slice none 0 0,.slice none 0 0,.slice none 0 0,.slice none 0 0,.bool false,.slice none 0 0]
def DC(fs:Value)(q wk t:Int)(b:Nat):Nat->Value:=λj=>(zY fs q wk t b).getD j undef
theorem DB{w:aa}{eb:Nat}{e:Value}{q wk t:Int}{b:Nat}(h:w.heap[eb]?=some (.cells (zY e q wk t b) 144 (0,0))):Full w eb 144 44 44 (DC e q wk t b):=by
 refine⟨_,h,rfl,λj i=>?_⟩;simp_all[zY,DC,Array.getD_eq_getD_getElem?,Array.getElem?_eq_getElem]
