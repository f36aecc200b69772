import Derived.Test.YtnjiinbhbjpfkaaGreatDoorTN
import Derived.Test.YtnjiinbhbjpfkaaGreatDoorTM
set_option maxRecDepth 100000
set_option maxHeartbeats 0
set_option linter.all false
namespace Go.Proofs.YtnjiinbhbjpfkaaGreatDoor
open Go.RowKit Go.Proofs.Tryz
section
theorem Ci(eb o n c H x:Nat)(ad y:Option Addr)(w:aa)(Y:w.cell? (ay eb o)=some (.slice ad n c))(J:w.cell? (ay eb (o+1))=some (.slice y 0 H))(hn:64<=n)(W:n<=1000): eL 131 #[Pt eb o,dy x] w λw'=>w'=w:=by
 have i:=gL eb (o+1) 0 H y w J;have u:decide ((0:Nat)=0)=true:=rfl;rw[u]at i;have G:=bj i;delta eL;go_in;go_wp2_with fail
 refine du G ?_;rintro w1 rfl;go_wp2
 go_end0;grind
def Oc(w w':aa)(eb o N n c:Nat)(T:TypeId)(ad:Option Addr)(bs:List Nat)(x:Nat)(E:Nat->Value):Prop:=
 ∃g c',Full w' eb T N N (eC E o (.slice (some ⟨g,0,none⟩) (n+1) c'))/\w'.ownsRow 0 5 1 (.slice (some ⟨g,0,none⟩) (n+1) c') (n+1) (iI (bs++[x]))/\dM (λk=>k=eb\/(Value.slice ad n c).ownBlock=some k) w w'/\((Value.slice ad n c).ownBlock=some g\/w.heap.size<=g)
theorem Cg(eb o N n c c' x:Nat)(T:TypeId)(ad aJ:Option Addr)(bs:List Nat)(E:Nat->Value)(w:aa)(hE:Full w eb T N N E)(ho:o+1<N)(he:E o=.slice ad n c)(aN:E (o+1)=.slice aJ 0 c')(Y:w.ownsRow 0 5 1 (.slice ad n c) n (iI bs))(hn:n<64)(ng:∀k,(Value.slice ad n c).ownBlock=some k->k≠eb): Calls prog 131 #[Pt eb o,.int .u8 (x:Int)] w λe w'=>e=.returned (.tuple #[])/\Oc w w' eb o N n c T ad bs x E:=by
 obtain⟨i0,hi,aA,a7,a6⟩:=info_parts Tryz.IB;obtain⟨c0,z0⟩:=hE.cells o ag;obtain⟨c1,z1⟩:=hE.cells (o+1) ho;rw[he]at c0;rw[aN]at c1;have le:=hE.lt;have a5:=gL eb (o+1) 0 c' aJ w c1;have aH:decide ((0:Nat)=0)=true:=rfl;rw[aH]at a5;have aC:=bj a5;have HE:=bj hE;have HR:=bj Y;have aI:=bj ng;have a8:(c<n+1/\((ad=none/\n=0/\c=0)\/∃g,ad=some ⟨g,0,none⟩))\/(n+1<=c/\∃kb,ad=some ⟨kb,0,none⟩):=by
  rcases Y.2 with⟨h,h0⟩|⟨g',c',aM,h1,_,_,h4,_⟩
  .grind
  injection h1 with a1 a2 a3;by_cases aL:n+1<=c
  .grind
  exact af ⟨ag,ah ⟨g',a1⟩⟩
 have hX:iI (bs++[x])=iI bs++[.int .u8 (x:Int)]:=by simp[iI]
 have HX:=bj hX;clear a5 aH hE Y ng hX;have Z:Hid (∀(w2:aa) (g W:Nat),w2.ownsRow 0 5 1 (.slice (some ⟨g,0,none⟩) (n+1) W) (n+1) (iI bs++[.int .u8 (x:Int)])->(w.alloc (.cells #[.int .u8 (x:Int)] 5)).grownBy w2 (Value.slice ad n c).ownBlock->((Value.slice ad n c).ownBlock=some g\/w.heap.size<=g)->g≠eb->Oc w (w2.setCell ⟨eb,o,none⟩ (.slice (some ⟨g,0,none⟩) (n+1) W)) eb o N n c T ad bs x E/\Full w2 eb T N N E):=λw2 g W hr hg hp J=>by
  have aF:Full w2 eb T N N E:=(HE.out.block (av _ _ _ le)).block (hg.block eb fH (λh=>aI.out eb h.symm rfl));refine⟨⟨g,W,aF.eC o _,?_,bp ?_ (af (af rfl)) _,hp⟩,aF⟩
  .rw[HX.out];exact dQ hr (λk h=>by
    have hk:k=g:=by injection h with h;exact h.symm
    grind[Below.heap_setCell])
  exact dM.trans (S1:=λk=>(Value.slice ad n c).ownBlock=some k) (gP (dw _ w) _) ⟨hg.os,hg.tape,hg.output,hg.size,λk hk hn=>hg.block k hk (λe=>hn e.symm)⟩ (λk h _=>ah h)
 have a9:Hid ((w.alloc (.cells #[.int .u8 (x:Int)] 5)).ownsRow 0 5 1 (.slice ad n c) n (iI bs)):=Co HR.out _;have a0:(w.alloc (.cells #[.int .u8 (x:Int)] 5)).heap[w.heap.size]? = some (.cells #[.int .u8 (x:Int)] 5 (0,0)):=bl w _;have aG:(w.alloc (.cells #[.int .u8 (x:Int)] 5)).cell? ⟨w.heap.size,0,none⟩=some (.int .u8 (x:Int)):=by simp only[World.cell?,a0];rfl
 have aD:Hid (∀j u,[Value.int .u8 (x:Int)][j]? = some u->(w.alloc (.cells #[.int .u8 (x:Int)] 5)).cell? ((⟨w.heap.size,0,none⟩:Addr).add j)=some u):=λj u hj=>by
  match j,hj with
  | 0,hj=>(simp at hj;subst hj;exact aG)
 have aB:n+1<=maxLen:=pY
 clear a0 aG;rcases a8 with⟨a4,hf⟩|⟨aE,kb,rfl⟩
 .rcases hf with⟨rfl,rfl,rfl⟩|⟨kb,rfl⟩
  .go_in;go_wp2_with fail
   refine aC.out.mono ?_;rintro e w1 ⟨rfl,rfl⟩;go_wp2_with (at_builtin;refine jq rfl (.tmp 32) (.tmp 34) 86 rfl 5 i0 (.int .u8 0) 1 1 Tryz.underlying86 hi aA a7 a6 rfl ek 0 none 0 0 (iI bs) rfl a9.out ⟨w1.heap.size,0,none⟩ 1 1 [.int .u8 (x:Int)] rfl rfl aD.out ?c2 aB ?c4 a4 ?_)
   try case c2=>intro u hu;simp at hu;subst hu;rfl
   try case c4=>omega
   intro v' w2 y G;obtain⟨g,W,rfl⟩:=ee y ag;have J:=(gZ y).1;have i:=Z.out w2 g W (gV y (dk _)) G (ah ag) ag;obtain⟨d0,e0⟩:=i.2.cells o ag;have H:=bj i.1;clear i y G J;go_wp2_with fail
   go_end0;exact⟨rfl,H.out⟩
  have aO:c=n:=by
   rcases HR.out.2 with⟨h,_⟩|⟨g',c',aM,h1,_,_,h4,_⟩
   .cases h
   injection h1 with a1 a2 a3;omega
  subst aO;go_in;go_wp2_with fail
  refine aC.out.mono ?_;rintro e w1 ⟨rfl,rfl⟩;go_wp2_with (at_builtin;refine jq rfl (.tmp 32) (.tmp 34) 86 rfl 5 i0 (.int .u8 0) 1 1 Tryz.underlying86 hi aA a7 a6 rfl ek 0 (some ⟨kb,0,none⟩) c c (iI bs) rfl a9.out ⟨w1.heap.size,0,none⟩ 1 1 [.int .u8 (x:Int)] rfl rfl aD.out ?c2 aB ?c4 a4 ?_)
  try case c2=>intro u hu;simp at hu;subst hu;rfl
  try case c4=>omega
  intro v' w2 y G;obtain⟨g,W,rfl⟩:=ee y ag;have J:=(gZ y).1;have i:=Z.out w2 g W (gV y (dk _)) (mN G kb) (ah ag) ag;obtain⟨d0,e0⟩:=i.2.cells o ag;have H:=bj i.1;clear i y G J;go_wp2_with fail
  go_end0;exact⟨rfl,H.out⟩
 go_in;go_wp2_with fail
 refine aC.out.mono ?_;rintro e w1 ⟨rfl,rfl⟩;go_wp2_with (at_builtin;refine nO rfl (.tmp 32) (.tmp 34) 86 rfl 0 5 i0 (.int .u8 0) 1 1 Tryz.underlying86 hi aA a7 a6 rfl ek kb c n (iI bs) rfl a9.out ⟨w1.heap.size,0,none⟩ 1 1 [.int .u8 (x:Int)] rfl rfl aD.out ?c2 aB ?c4 ?c5 aE ?_)
 try case c2=>intro u hu;simp at hu;subst hu;rfl
 try case c4=>omega
 try case c5=>omega
 intro w2 y G;have i:=Z.out w2 kb c y G (af rfl) (aI.out kb rfl);obtain⟨d0,e0⟩:=i.2.cells o ag;have H:=bj i.1;clear i y G;go_wp2_with fail
 go_end0;exact⟨rfl,H.out⟩
theorem Ch(eb o n c qb G sx x:Nat)(R:aa->Prop)(w:aa)(Y:w.cell? (ay eb (o+1))=some (dA qb (n+1) c))(h2:w.cell? (ay qb 0)=some (P0 G))(h3:w.cell? (ay G 4)=some (Fv 207 #[P0 sx]))(hx:x<256)(ly:G<w.heap.size)(le:eb<w.heap.size)(lq:qb<w.heap.size)(H:∀w1,w.grownBy w1 none->eL 207 #[vA (0,(x:Int)),P0 sx] w1 λw'=>R w'): eL 131 #[Pt eb o,dy x] w λw'=>R w':=by
 have i:=gL eb (o+1) (n+1) c (some (ay qb 0)) w Y;have u:decide ((n+1:Nat)=0)=false:=eB
 rw[u]at i;change Hid _ at i H;have HF:=bj (λ(w1:aa) (Z:w.grownBy w1 none)=>pQ eb (o+1) n c qb G w1 ((bd Z (a:=ay eb (o+1)) le).1.trans Y) ((bd Z (a:=ay qb 0) lq).1.trans h2));have a0:IntKind.i64.wrap (x:Int)=x:=jG _ ⟨ag,ag⟩;clear u;delta eL;go_in;go_wp2_with fail
 refine du i ?_;rintro w1 rfl;go_wp2
 go_region_with (first|(go_at_call 132;refine du (HF _ (by grind[aw,bo,ax])) ?_;rintro w2 rfl)|(go_at_call 61;refine du (fG _ _) ?_;rintro w2 rfl)|(go_at_call 207;refine du (H _ (by grind[aw,bo,ax])) λw4 y=>?_;have W:=bj y;clear y))
 all_goals
  go_wp2
  go_end0;exact⟨rfl,W⟩
