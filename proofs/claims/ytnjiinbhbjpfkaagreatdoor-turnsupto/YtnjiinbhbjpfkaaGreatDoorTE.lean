import Derived.Test.YtnjiinbhbjpfkaaGreatDoorTA
import Derived.Shelf.Spec.SlicesInsertGrow
import Derived.Defers
import Derived.Laws.LoneSync
set_option maxRecDepth 100000
set_option maxHeartbeats 0
set_option linter.all false
namespace Go.Proofs.YtnjiinbhbjpfkaaGreatDoor
open Go.RowKit Go.Proofs.Tryz
section
def Mv(g c n i J:Nat)(xs:List Value)(w:aa)(a0:w.ownsRow J 5 1 (.slice (some ⟨g,0,none⟩) n c) n xs)(aI:i<n)(h1:∀x,x∈xs->x.oneCell'=true)(aF:n<=1000000000): Calls prog 208 #[.slice (some ⟨g,0,none⟩) n c,.int .i64 (i:Int),.int .i64 ((i:Int)+1)] w λe w'=>e=.returned (.slice (some ⟨g,0,none⟩) (n-1) c)/\w'.ownsRow J 5 1 (.slice (some ⟨g,0,none⟩) (n-1) c) (n-1) (xs.eraseIdx i)/\w.grownBy w' (some g):=by
 obtain⟨hb,hc,hm,hl,hB,y⟩:=gZ a0;clear a0;obtain⟨i0,hi,a6,a4,a9⟩:=info_parts Tryz.IB;have hv:∀w,(zeroValue 5).run prog w=.ok (.int .u8 0) w:=by intro w;simp[zeroValue,typeInfo,hi,a6]
 have W:∀(ty:TypeId) (w1:aa) (G:Nat),jF w1 g 5 c->(Builtin.clear_ #[86] ty #[.slice (some ⟨g,n-1,none⟩) 1 G]).run prog w1=.ok (.tuple #[]) (w1.setCell ⟨g,n-1,none⟩ (.int .u8 0)):=by
  intro ty w1 G a2;refine Go.Lib.run_clear_slice (P:=prog) w1 86 5 ty (.int .u8 0) Tryz.underlying86 hv rfl rfl g (n-1) 1 G ag ?_ ?_
  .intro j Z;obtain⟨⟨v,h⟩,_⟩:=a2.cell (n-1+j) ag;rw[h];rfl
  intro j Z;exact(a2.cell (n-1+j) ag).2
 have aG:i<=c:=ag
 have aA:(0:Int)<=(i:Int)+1:=ag
 have a8:i+1<=c:=ag
 have aC:(n:Int)<=(c:Int):=ag
 have aE:(i:Int)+1<=(n:Int):=ag
 have aH:(c:Int)<=9223372036854775807:=by unfold maxLen at hm;omega
 have HB:=bj hB;have HX:=bj y;have H1:=bj h1;have H:=bj hl;have Y:=bj W;have HM:=bj hm;clear hB y h1 hl W hm;by_cases o:i+1=n
 .obtain rfl:n=i+1:=o.symm;have cl:∀(ty:TypeId) (G:Nat),(Builtin.clear_ #[86] ty #[.slice (some ⟨g,i,none⟩) 1 G]).run prog w.drew=.ok (.tuple #[]) (w.drew.setCell ⟨g,i,none⟩ (.int .u8 0)):=λty G=>Y.out ty w.drew G HB.out;clear o;go_in;go_wp2_with fail
  go_region_law (refine ld rfl (.tmp 22) (.tmp 25) 86 rfl 5 i0 Tryz.underlying86 hi (some ⟨g,0,none⟩) (if c=i+1 then some ⟨g,0,none⟩ else some ⟨g,i+1,none⟩) i c (c-(i+1)) mB mB ag ?_)
  all_goals
   go_wp2_with fail
   all_goals
    go_ret;refine⟨rfl,nD hb ag (gp HM.out) (by rw[List.length_eraseIdx,bf (kr H.out),H.out];omega) (by obtain⟨cu,k1,k2⟩:=HB.out.set g i (.int .u8 0);exact⟨cu,k1,ag⟩) (λj x y=>?_),?_⟩
    .have Z:j<i:=by
      have:=(cf.1 y).1;rw[List.length_eraseIdx,bf (kr H.out),H.out]at this;omega
     rw[List.getElem?_eraseIdx_of_lt Z]at y;have:=HX.out j x y;have h2:(World.setCell w ⟨g,i,none⟩ (.int .u8 0)).cell? ⟨g,j,none⟩=some x:=by
      rw[dH _ _ _ _ AA];exact this
     exact h2
    repeat (first|exact aw _ _|refine bo ?_|refine bu ?_ (af rfl) _)
 obtain⟨m,a7⟩:∃m,n=i+1+m:=⟨n-(i+1),ag⟩;have aD:1<=m:=ag
 subst a7;have aB:¬c=i+1:=ag
 have r1:(xs.drop (i+1)).length=m*1:=by rw[List.length_drop,H.out,Nat.mul_one];omega
 have r2:∀j u,(xs.drop (i+1))[j]? = some u->w.drew.cell? ((⟨g,i+1,none⟩:Addr).add j)=some u:=λj u hu=>by
  rw[List.getElem?_drop]at hu;have:=HX.out (i+1+j) u hu
  cases j with
  | zero=>simpa[Addr.add] using this
  | succ j=>simpa[Addr.add] using this
 have r3:∀u,u∈xs.drop (i+1)->u.oneCell'=true:=λu hu=>H1.out u (List.mem_of_mem_drop hu);have r5:∀j,j<(xs.drop (i+1)).length->(w.drew.cell? ⟨g,0+i*1+j,none⟩).isSome=true/\w.drew.frozen? ⟨g,0+i*1+j,none⟩=false:=λj Z=>by
  rw[r1]at Z;obtain⟨⟨v,h⟩,hf⟩:=HB.out.cell (0+i*1+j) ag;have h':w.drew.cell? ⟨g,0+i*1+j,none⟩=some v:=h;exact⟨jx h',hf⟩
 have HR:=bj (bh r1 (bh r2 (bh r3 r5)));have e1:i+1+m-(i+1)=m:=ag
 have e2:i+1+m-(i+m)=1:=ag
 have e3:i+m<=c:=ag
 have e6:(i:Int)+1<=(i:Int)+1+(m:Int):=ag
 have BS:jF (w.drew.setCells g i (xs.drop (i+1))) g 5 c:=jF.wO g _ _ _ (show jF w.drew g 5 c from HB.out);have cl:=λty G=>by
  have:=Y.out ty _ G BS;rw[show i+1+m-1=i+m by omega]at this;exact this
 have a5:=bj BS;clear r1 r2 r3 r5 o BS;go_in;go_wp2_with fail
 go_region_law (refine step_append_room rfl (.tmp 22) (.tmp 25) 86 rfl 5 i0 1 Tryz.underlying86 hi a4 g 0 i c mB ⟨g,i+1,none⟩ m (c-(i+1)) (xs.drop (i+1)) mB HR.out.1 HR.out.2.1 HR.out.2.2.1 ag HR.out.2.2.2 ?_)
 all_goals
  go_wp2_with fail
  go_ret;rw[show i+1+m-1=i+m by omega];have a1:∀j,j<(xs.drop (i+1)).length->(w.drew.cell? ⟨g,i+j,none⟩).isSome=true:=λj Z=>by
   have:=(HR.out.2.2.2 j Z).1;simpa using this
  refine⟨rfl,nD hb ag HM.out (by rw[List.length_eraseIdx,bf (kr H.out),H.out];omega) (by obtain⟨cu,k1,k2⟩:=a5.out.set g (i+m) (.int .u8 0);exact⟨cu,k1,k2⟩) (λj x y=>?_),?_⟩
  .have Z:j<i+m:=by
    have:=(cf.1 y).1;rw[List.length_eraseIdx,bf (kr H.out),H.out]at this;omega
   have h2:((w.drew.setCells g i (xs.drop (i+1))).setCell ⟨g,i+m,none⟩ (.int .u8 0)).cell? ⟨g,j,none⟩=some x:=by
    rw[dH _ _ _ _ AA];by_cases a3:j<i
    .rw[World.cell?_setCells_out g _ _ _ _ (λ_ _=>af a3)];rw[List.getElem?_eraseIdx_of_lt a3]at y;exact HX.out j x y
    obtain⟨t,rfl⟩:∃t,j=i+t:=⟨j-i,ag⟩;rw[List.getElem?_eraseIdx_of_ge ag]at y;have hd:(xs.drop (i+1))[t]? = some x:=by rw[List.getElem?_drop,<-y];congr 1;omega
    have ht:=(cf.1 hd).1;rw[World.cell?_setCells_in g _ _ _ a1 t ht];obtain⟨_,hv⟩:=cf.1 hd;rw[hv]
   exact h2
  repeat (first|exact aw _ _|refine bo ?_|refine bu ?_ (af rfl) _|refine mO g ?_ _ _)
def iI(bs:List Nat):List Value:=bs.map (λ(x:Nat)=>Value.int .u8 (x:Int))
theorem BY(eb o c:Nat)(ad:Option Addr)(w:aa)(h:w.cell? (ay eb o)=some (.slice ad 0 c)): dD 174 #[Pt eb o] w (.tuple #[dy 0,.bool false]) λw'=>w'=w:=by
 delta dD;go_in;go_wp2
 go_ret2
 simp_all
def BX(eb o g c N x:Nat)(T:TypeId)(bs:List Nat)(E:Nat->Value)(w:aa)(J:Full w eb T N N E)(ho:o<N)(he:E o=dA g (bs.length+1) c)(i:w.ownsRow 0 5 1 (dA g (bs.length+1) c) (bs.length+1) (iI (x :: bs)))(hn:bs.length<=1000)(Z:g≠eb): dD 174 #[Pt eb o] w (.tuple #[dy x,.bool true]) λw'=>Full w' eb T N N (eC E o (dA g bs.length c))/\w'.ownsRow 0 5 1 (dA g bs.length c) bs.length (iI bs)/\dM (λk=>k=eb\/k=g) w w':=by
 obtain⟨c0,z0⟩:=J.cells o ho;rw[he]at c0;have q0:dS w g 0=some (dy x):=(gZ i).2.2.2.2.2 0 _ rfl;have HD:Hid (dD 208 #[dA g (bs.length+1) c,aj 0,aj 1] w (dA g bs.length c) λw'=>w'.ownsRow 0 5 1 (dA g bs.length c) bs.length (iI bs)/\w.grownBy w' (some g)):=by
  have:=Mv g c (bs.length+1) 0 0 (iI (x :: bs)) w i ag (λy hy=>by obtain⟨z,_,rfl⟩:=eK.1 hy;rfl) ag;refine bj ?_;simpa[iI] using this
 have HE:=bj J;generalize bs.length=n at *;delta dD;go_in;go_wp2_with fail
 refine du HD ?_;rintro w1 ⟨H,u⟩;have G:=bj (HE.kept u (λe=>Z e.symm));obtain⟨d0,e0⟩:=G.cells o ho;have Y:=bj H;have W:=bj u;go_wp2
 go_ret2
 refine⟨rfl,G.eC o _,dQ Y (λk h=>?_),bp (jB W (ah rfl)) (af (af rfl)) _⟩;have hk:k=g:=by injection h with h;exact h.symm
 grind[Below.heap_setCell]
end
section
open Go.Lib
def Gl:∀w:aa,(sizeOf 155).run prog w=.ok 1 w:=by
 intro w;obtain⟨i0,hi,i,e,o⟩:=info_parts Tryz.oF;simp[sizeOf,typeInfo,hi,e]
def B1(b n c i vb:Nat)(G:List Value)(y:Value)(w:aa)(hi:i<n)(aK:n+1<=c)(aL:c<=9223372036854775807)(a4:vb≠b)(aJ:G.length=n)(a6:∀j v,G[j]? = some v->w.cell? (ay b j)=some v)(Y:∀j,j<n+1->(w.cell? (ay b j)).isSome=true)(a3:∀j,j<n+1->w.frozen? (ay b j)=false)(aC:w.cell? (ay vb 0)=some y)(a8:∀v∈G,v.oneCell'=true)(aB:y.oneCell'=true)(tA tB:TypeId)(kA kB:Nat)(aG:w.shape? vb=some (tA,kA))(aD:w.shape? b=some (tB,kB))(aI:kB≠0)(a7:w.frozen? (ay vb 0)=false)(aH:w.frozen? (ay vb kA)=false): Calls prog 203 #[dA b n c,aj i,dA vb 1 1] w λe w'=> e=.returned (dA b (n+1) c)/\w'=(w.drew.setCells b (i+1) (G.drop i)).setCells b i [y]:=by
 have a5:(prog.info? 155).map (·.size)=some 1:=by
  obtain⟨i0,aA,h0,h1,h2⟩:=info_parts Tryz.oF;rw[aA];simp[h1]
 have aE:∀lb cb,(callFunc 222 #[dA vb 1 1,.slice (some (ay b (i+1))) lb cb]).run prog w=.ok (.value (.bool false)) w:=λlb cb=>by
  rw[run_callFunc_extern func222 eX eX eX (e:=Extern.SlicesOverlaps.overlaps #[136,136] #[4]) eX,
   Lib.run_overlaps_apart w 136 4 155 underlying136 1 Gl (ay vb 0) (ay b (i+1)) 1 1 lb cb a4 tA tB kA kB aG aD aI a7 aH]
  rfl
 have aF:(G.drop i).length=n-i:=by rw[List.length_drop,aJ]
 have aP:IntKind.i64.wrap ((i:Int)+1)=(i:Int)+1:=kr IntKind.wrap_i64
 have aQ:wrap64 ((i:Int)+1)=(i:Int)+1:=dN _ ⟨ag,ag⟩;have aR:(0:Int)<=i+1:=ag
 have aT:i<=n:=ag
 have aN:((i:Int)+1).toNat=i+1:=ag
 have aU:¬(c=i+1):=ag
 have aO:(i:Int)<=n+1:=ag
 have aS:¬(c=i):=ag
 have H:∀ty J sc,(Builtin.copy_ #[136,136] ty #[.slice (some (ay b (i+1))) (n-i) J,.slice (some (ay b i)) (n+1-i) sc]).run prog w.drew=.ok (goInt (G.drop i).length) (w.drew.setCells b (i+1) (G.drop i)):=λty J sc=>
  run_copy_cells w.drew _ _ ty 155 b (i+1) (n-i) J (ay b i) (n+1-i) sc (G.drop i) underlying136 a5 (by rw[aF];show n-i=min _ _;omega)
   (λj v o=>by rw[Addr.add_lit];exact a6 (i+j) v (by rwa [List.getElem?_drop]at o))
   (λj o=>Y _ ag) (λj o=>a3 _ ag) (λv hv=>a8 v (List.mem_of_mem_drop hv))
 obtain⟨Z,u⟩:∃Z,Z=w.drew.setCells b (i+1) (G.drop i):=⟨_,rfl⟩;have a1:∀k,k<n+1->(dS Z b k).isSome=true:=λk hk=>by
  rw[u];exact isSome_setCells b (G.drop i) (i+1) w.drew (λj o=>Y (i+1+j) ag) k (Y k hk)
 have a0:∀(W:aa),(∀x,W.cell? x=Z.cell? x)->(∀x,W.frozen? x=Z.frozen? x)->∀ty J,(Builtin.copy_ #[136,136] ty #[.slice (some (ay b i)) (n+1-i) J,dA vb 1 1]).run prog W=.ok (goInt [y].length) (W.setCells b i [y]):=λW a2 a9 ty J=>
  run_copy_cells W _ _ ty 155 b i (n+1-i) J (ay vb 0) 1 1 [y] underlying136 a5 (by simp only[Nat.min_def,eI];split<;>omega)
   (λj v o=>by
    rw[Addr.add_lit,a2,u,World.cell?_setCells_out b _ _ _ _ (λh _=>dp h a4)];match j,o with
    | 0,o=>simp at o;subst o;exact aC)
   (λj o=>by rw[a2];simp at o;exact a1 _ ag) (λj o=>by rw[a9,u,World.frozen?_setCells];simp at o;exact a3 _ ag) (λv hv=>by simp at hv;subst hv;exact aB)
 rw[<-u]at H;go_in;go_wp2_with (simp only[aE])
 go_region_law (refine step_copy_runI rfl _ _ 136 136 rfl _ _ (by simp[Act.eval,Act.put]) (by simp[Act.eval,Act.put]) (H _ _ _) ?_)
 go_wp2_with (at_builtin;refine wpList_copy_runI _ rfl _ _ 136 136 rfl _ _ rfl rfl (a0 _ (λ_=>rfl) (λ_=>rfl) _ _) ?_)
 go_ret;first|exact⟨rfl,rfl⟩|exact⟨rfl,by rw[u]⟩
def B3(b n c i vb:Nat)(cs:List Value)(y:Value)(w:aa)(hi:i<n)(hnc:n<=c)(hroom:c<n+1)(hbig:n<=1000000000)(hcl:cs.length=n)(hcs:∀j v,cs[j]? = some v->w.cell? (ay b j)=some v)(hvs:w.cell? (ay vb 0)=some y)(h1c:∀v∈cs,v.oneCell'=true)(h1v:y.oneCell'=true): Calls prog 203 #[dA b n c,aj i,dA vb 1 1] w λe w'=> e=.returned (dA w.heap.size (n+1) (grownCap w (n+1) c 155)) /\ w'=(((w.alloc (.cells ((cs.take i).toArray++Builtin.zeroCells (Value.pointer none).cells (n+1-i)++Builtin.zeroCells (Value.pointer none).cells (grownCap w (n+1) c 155-(n+1))) 155)).drew.setCells w.heap.size i [y]).drew).setCells w.heap.size (i+1) (cs.drop i):=by
 obtain⟨i0,hi0,hz0,hzs,hzb⟩:=info_parts Tryz.oF
 have hz3:(c:Int)<(n:Int)+1:=ag
 have hw1:IntKind.i64.wrap ((i:Int)+1)=(i:Int)+1:=kr IntKind.wrap_i64
 have hw2:wrap64 ((i:Int)+1)=(i:Int)+1:=dN _ ⟨ag,ag⟩
 have hw3:wrap64 ((n:Int)+1)=(n:Int)+1:=dN _ ⟨ag,ag⟩
 have hw4:wrap64 ((n:Int)+1-(i:Int))=(n:Int)+1-(i:Int):=dN _ ⟨ag,ag⟩
 have hb1:(0:Int)<=(i:Int)+1:=ag
 have htn:((i:Int)+1).toNat=i+1:=ag
 have hb3:(i:Int)<=(n:Int):=ag
 have hsz:(prog.info? 155).map (·.size)=some 1:=by rw[hi0];simp[hzs]
 have hbw:b<w.heap.size:=block_lt_of_cell (hcs 0 _ (bz ag))
 have hkk:(n:Int)+1-(i:Int)=((n+1-i:Nat):Int):=ag
 have hik:i+(n+1-i)=n+1:=ag
 have hold:(Builtin.firstCells i0.size i (dA b i c)).run prog w.drew=.ok (cs.take i).toArray w.drew:=by
  rw[hzs]
  exact run_firstCells_some w.drew 1 i (ay b 0) i c (cs.take i) eR (λj v hj=>by
   rw[Addr.add_lit]
   rw[dO]at hj
   simp_all)
 have hrz:∀ty,(Builtin.append_ #[136,3] ty #[dA b i c,aj ((n:Int)+1-(i:Int))]).run prog w =
   .ok (dA w.heap.size (n+1) (grownCap w (n+1) c 155)) (w.drew.alloc (.cells ((cs.take i).toArray++Builtin.zeroCells (Value.pointer none).cells (n+1-i)++Builtin.zeroCells (Value.pointer none).cells (grownCap w (n+1) c 155-(n+1))) 155)):=λty=>by
  have h:=Lib.run_append_grow_zeros w 136 3 ty 155 i0 _ .i64 .i64 underlying136 underlying3 hi0 hz0 (some (ay b 0)) i c (cs.take i) hold (n+1-i) ag ag ag ag eR (by rw[hzb,hik];exact growslice_fits hroom ag)
  grind
 obtain⟨G,hG⟩:∃G,G=grownCap w (n+1) c 155:=⟨_,rfl⟩
 obtain⟨ROW,hROW⟩:∃ROW:Array Value,ROW=(cs.take i).toArray++Builtin.zeroCells (Value.pointer none).cells (n+1-i)++Builtin.zeroCells (Value.pointer none).cells (G-(n+1)):=⟨_,rfl⟩
 rw[<-hG]at hrz ⊢
 rw[<-hROW]at hrz ⊢
 have hRl:n+1<=ROW.size:=by
  rw[hROW]
  simp[Builtin.zeroCells,Value.cells]
  omega
 obtain⟨W1,hW1⟩:∃W1,W1=w.drew.alloc (.cells ROW 155):=⟨_,rfl⟩
 rw[<-hW1]at hrz
 have hN:∀j,j<n+1->(W1.cell? (ay w.heap.size j)).isSome=true:=λj hj=>by
  rw[hW1,World.cell?_alloc_at (w:=w.drew) ROW _ w.heap.size j rfl,Array.getElem?_eq_getElem ag];rfl
 have hNf:∀j,W1.frozen? (ay w.heap.size j)=false:=λj=>by rw[hW1];exact World.frozen?_alloc_at (w:=w.drew) ROW _ w.heap.size j rfl
 have hOb:∀j v,w.cell? (ay b j)=some v->W1.cell? (ay b j)=some v:=λj v h=>by rw[hW1,World.cell?_alloc_past (w:=w.drew) _ b j hbw];exact h
 have hOv:∀j v,w.cell? (ay vb j)=some v->W1.cell? (ay vb j)=some v:=λj v h=>by rw[hW1,World.cell?_alloc_past (w:=w.drew) _ vb j (block_lt_of_cell hvs)];exact h
 have hcpA:∀(W:aa),(∀x,W.cell? x=W1.cell? x)->(∀x,W.frozen? x=W1.frozen? x)->∀ty dc,(Builtin.copy_ #[136,136] ty #[.slice (some (ay w.heap.size i)) (n+1-i) dc,dA vb 1 1]).run prog W=.ok (goInt [y].length) (W.setCells w.heap.size i [y]):=λW hWc hWf ty dc=>
  run_copy_cells W _ _ ty 155 w.heap.size i (n+1-i) dc (ay vb 0) 1 1 [y] underlying136 hsz (by simp only[Nat.min_def,eI];split<;>omega)
   (λj v hj=>by
    match j,hj with
    | 0,hj=>simp at hj;subst hj;rw[Addr.add_lit,hWc];exact hOv _ _ hvs)
   (λj hj=>by rw[hWc];simp at hj;exact hN _ ag) (λj hj=>by rw[hWf];exact hNf _) (λv hv=>by simp at hv;subst hv;exact h1v)
 have hGn:n+1<=G:=by rw[hG];exact grownCap_ge w _ _ _
 have hGi:¬(G=i):=ag
 have hGim:¬(G=i+1):=ag
 have hci:¬(c=i):=ag
 have hbN:b≠w.heap.size:=ag
 have hdl:(cs.drop i).length=n-i:=by rw[List.length_drop,hcl]
 have hcpB:∀(W:aa),(∀x,W.cell? x=(W1.setCells w.heap.size i [y]).cell? x)->(∀x,W.frozen? x=(W1.setCells w.heap.size i [y]).frozen? x)->∀ty dc sc,(Builtin.copy_ #[136,136] ty #[.slice (some (ay w.heap.size (i+1))) (n-i) dc,.slice (some (ay b i)) (n-i) sc]).run prog W=.ok (goInt (cs.drop i).length) (W.setCells w.heap.size (i+1) (cs.drop i)):=λW hWc hWf ty dc sc=>
  run_copy_cells W _ _ ty 155 w.heap.size (i+1) (n-i) dc (ay b i) (n-i) sc (cs.drop i) underlying136 hsz (by rw[hdl];show n-i=min _ _;omega)
   (λj v hj=>by
    rw[Addr.add_lit,hWc,World.cell?_setCells_out _ _ _ _ _ (λh _=>dp h hbN)]
    exact hOb _ v (hcs (i+j) v (by rwa [List.getElem?_drop]at hj)))
   (λj hj=>by rw[hWc];exact isSome_setCells w.heap.size [y] i W1 (λt ht=>by simp at ht;exact hN _ ag) _ (hN _ ag))
   (λj hj=>by rw[hWf,World.frozen?_setCells];exact hNf _) (λv hv=>h1c v (List.mem_of_mem_drop hv))
 subst hW1
 have hE1:∀x,((w.alloc (.cells ROW 155)).drew).cell? x=(w.drew.alloc (.cells ROW 155)).cell? x:=λx=>rfl
 have hE2:∀x,((w.alloc (.cells ROW 155)).drew).frozen? x=(w.drew.alloc (.cells ROW 155)).frozen? x:=λx=>rfl
 have hF1:∀x,(((w.alloc (.cells ROW 155)).drew.setCells w.heap.size i [y]).drew).cell? x=((w.drew.alloc (.cells ROW 155)).setCells w.heap.size i [y]).cell? x:=λx=>rfl
 have hF2:∀x,(((w.alloc (.cells ROW 155)).drew.setCells w.heap.size i [y]).drew).frozen? x=((w.drew.alloc (.cells ROW 155)).setCells w.heap.size i [y]).frozen? x:=λx=>rfl
 clear hkk hik hold hROW hG hRl
 go_in
 go_wp2_with (first
  | (at_builtin;refine Lib.wpList_append_run _ rfl _ _ _ _ rfl _ _ rfl rfl _ _ (hrz _) ?_)
  | (at_builtin;refine wpList_copy_runI _ rfl _ _ 136 136 rfl _ _ rfl rfl (hcpA _ hE1 hE2 _ _) ?_)
  | (at_builtin;refine wpList_copy_runI _ rfl _ _ 136 136 rfl _ _ rfl rfl (hcpB _ (λ_=>rfl) (λ_=>rfl) _ _ _) ?_))
 go_region_law (refine step_copy_runI rfl _ _ 136 136 rfl (.slice (some (ay w.heap.size (i+1))) (n-i) (G-(i+1))) (.slice (some (ay b i)) (n-i) (c-i)) (by simp[Act.eval,Act.put]) (by simp[Act.eval,Act.put]) (hcpB _ hF1 hF2 155 (G-(i+1)) (c-i)) ?_)
 go_wp2
 go_ret
 exact⟨rfl,rfl⟩
end
section
theorem disable(w:aa):(callFunc 122 #[]).run prog w=.ok (.value (.tuple #[])) w:=run_call_mark0 func122 eX eX eX .disable eX w
theorem enable(w:aa):(callFunc 124 #[]).run prog w=.ok (.value (.tuple #[])) w:=run_call_mark0 func124 eX eX eX .enable eX w
theorem acquire(a:Addr)(w:aa):(callFunc 125 #[.pointer (some a)]).run prog w=.ok (.value (.tuple #[])) w:=run_call_marked func125 eX eX eX .acquire eX a w
theorem releaseMerge(a:Addr)(w:aa):(callFunc 127 #[.pointer (some a)]).run prog w=.ok (.value (.tuple #[])) w:=run_call_marked func127 eX eX eX .releaseMerge eX a w
def jV(a:Addr)(u:FrameMode)(w:aa)(i:w.cell? a=some (.int .i32 1))(hz:w.frozen? a=false): CallsD prog 40 #[.pointer (some a)] u w λe H w'=>H=u/\(e=.returned (.tuple #[])/\w'=w.setCell a (.int .i32 0)):=by
 have J:=disable;have he:=enable;have W:=releaseMerge;have G:=run_convert_to_unsafe (P:=prog) (src:=210) (dst:=214) underlying210 underlying214 eX i;have o:=run_call_add (P:=prog) func128 eX eX eX .i32 eX (y:=-1) (s:=0) i hz (by simp[go_sem];rfl);go_enter_d func40,ntmps40
 go_wp2
 go_end0;go_wp2
 go_end0;grind
def rf(b:Nat)(w:aa)(u:w.cell? (ay b 0)=some (.int .i32 0))(G:w.frozen? (ay b 0)=false): eL 39 #[P0 b] w λw'=>w'=w.setCell (ay b 0) (.int .i32 1):=by
 have J:=disable;have he:=enable;have W:=acquire;have o:=run_call_cas_hit (P:=prog) func123 eX eX eX .i32 eX (y:=1) u G;have i:dS (w.setCell (ay b 0) (.int .i32 1)) b 0=some (.int .i32 1):=by simp[go_sem,u]
 have H:=run_convert_to_unsafe (P:=prog) (src:=210) (dst:=214) underlying210 underlying214 eX i;delta eL;go_in;go_wp2
 first|go_end0|(simp only[Exit.inBlock,Exit.then];refine dg (results_none rfl _ _ _) rfl ?_)|refine dg (results_none rfl _ _ _) rfl ?_
 go_wp2
 go_end0;grind
def zL(mb eb o c0:Nat)(i:Option Addr)(ticks:Int)(w:aa)(H:w.cell? (ay mb 0)=some (.int .i32 0))(y:w.frozen? (ay mb 0)=false)(W:w.cell? (ay mb 2)=some (P0 eb))(R:Value->aa->Prop)(u:Hid (Calls prog 41 #[P0 eb,aj ticks,.slice i o c0] (w.setCell (ay mb 0) (.int .i32 1)) λe w'=>∃ad n c,e=.returned (.slice ad n c)/\w'.cell? (ay mb 0)=some (.int .i32 1)/\w'.frozen? (ay mb 0)=false/\R (.slice ad n c) w')): Calls prog 24 #[P0 mb,aj ticks,.slice i o c0] w λe w'=>∃v w1,e=.returned v/\R v w1/\w'=w1.setCell (ay mb 0) (.int .i32 0):=by
 go_enter_defers func24,ntmps24
 go_wp2_with fail
 refine du (rf mb w H y) ?_;rintro w1 rfl;go_wp2_with fail
 refine u.mono ?_;rintro e w2 ⟨ad,n,c,rfl,c0,c1,hR⟩;have G:Hid (R (.slice ad n c) w2):=hR;go_wp2_with fail
 refine leaves_cons (f:=40) (args:=#[P0 mb]) eB (by simp[go_sem]) ?_;refine(jV (ay mb 0) .returning _ c0 c1).mono ?_;rintro e J w'' ⟨rfl,rfl,rfl⟩;exact⟨_,results_tmp rfl _ _ _,.slice ad n c,w2,rfl,G,rfl⟩
def zW(mb eb:Nat)(w:aa)(y:w.cell? (ay mb 0)=some (.int .i32 0))(o:w.frozen? (ay mb 0)=false)(H:w.cell? (ay mb 2)=some (P0 eb))(R:Value->aa->Prop)(i:Hid (Calls prog 43 #[P0 eb] (w.setCell (ay mb 0) (.int .i32 1)) λe w'=>∃ad n c,e=.returned (.slice ad n c)/\w'.cell? (ay mb 0)=some (.int .i32 1)/\w'.frozen? (ay mb 0)=false/\R (.slice ad n c) w')): Calls prog 26 #[P0 mb] w λe w'=>∃v w1,e=.returned v/\R v w1/\w'=w1.setCell (ay mb 0) (.int .i32 0):=by
 go_enter_defers func26,ntmps26
 go_wp2_with fail
 refine du (rf mb w y o) ?_;rintro w1 rfl;go_wp2_with fail
 refine i.mono ?_;rintro e w2 ⟨ad,n,c,rfl,c0,c1,hR⟩;have u:Hid (R (.slice ad n c) w2):=hR;go_wp2_with fail
 refine leaves_cons (f:=40) (args:=#[P0 mb]) eB (by simp[go_sem]) ?_;refine(jV (ay mb 0) .returning _ c0 c1).mono ?_;rintro e G w'' ⟨rfl,rfl,rfl⟩;exact⟨_,results_tmp rfl _ _ _,.slice ad n c,w2,rfl,u,rfl⟩
def ye(mb eb:Nat)(w:aa)(y:w.cell? (ay mb 0)=some (.int .i32 0))(o:w.frozen? (ay mb 0)=false)(H:w.cell? (ay mb 2)=some (P0 eb))(R:Int->aa->Prop)(i:Hid (Calls prog 42 #[P0 eb] (w.setCell (ay mb 0) (.int .i32 1)) λe w'=>∃x:Int,e=.returned (aj x)/\w'.cell? (ay mb 0)=some (.int .i32 1)/\w'.frozen? (ay mb 0)=false/\R x w')): Calls prog 25 #[P0 mb] w λe w'=>∃x w1,e=.returned (aj x)/\R x w1/\w'=w1.setCell (ay mb 0) (.int .i32 0):=by
 go_enter_defers func25,ntmps25
 go_wp2_with fail
 refine du (rf mb w y o) ?_;rintro w1 rfl;go_wp2_with fail
 refine i.mono ?_;rintro e w2 ⟨x,rfl,c0,c1,hR⟩;have u:Hid (R x w2):=hR;go_wp2_with fail
 refine leaves_cons (f:=40) (args:=#[P0 mb]) eB (by simp[go_sem]) ?_;refine(jV (ay mb 0) .returning _ c0 c1).mono ?_;rintro e G w'' ⟨rfl,rfl,rfl⟩;exact⟨_,results_tmp rfl _ _ _,x,w2,rfl,u,rfl⟩
def GC(v:Value)(a:Option Addr)(n c:Nat)(Z:∃u y o,v=.slice u y o)(w:aa):Calls prog 138 #[.agg #[v,.slice a n c]] w λe w'=>e=.returned (.bool (decide (n≠0)))/\w.grownBy w' none:=by
 obtain⟨u,y,o,rfl⟩:=Z;by_cases hn:n=0
 .have Y:=bj hn;rw[show decide (n≠0)=false by grind];clear hn;go_in;go_wp2_with fail
  have W:=bl w (.cells #[.slice u y o,.slice a n c] 141);have H:=bj (ak w (.cells #[.slice u y o,.slice a n c] 141) none);generalize J:w.alloc (.cells #[.slice u y o,.slice a n c] 141)=w1 at *;clear J;have G:w1.cell? ⟨w.heap.size,1,none⟩=some (.slice a n c):=fy W
  have i:=gL w.heap.size 1 n c a w1 G;rw[show decide (n=0)=true by simpa using Y.out]at i;refine i.mono ?_;rintro e w2 ⟨rfl,rfl⟩;go_wp2_with fail
  go_ret;exact⟨rfl,H.out⟩
 have Y:=bj hn;rw[show decide (n≠0)=true by grind];clear hn;go_in;go_wp2_with fail
 have W:=bl w (.cells #[.slice u y o,.slice a n c] 141);have H:=bj (ak w (.cells #[.slice u y o,.slice a n c] 141) none);generalize J:w.alloc (.cells #[.slice u y o,.slice a n c] 141)=w1 at *;clear J;have G:w1.cell? ⟨w.heap.size,1,none⟩=some (.slice a n c):=fy W
 have i:=gL w.heap.size 1 n c a w1 G;rw[show decide (n=0)=false by simpa using Y.out]at i;refine i.mono ?_;rintro e w2 ⟨rfl,rfl⟩;go_wp2_with fail
 go_ret;exact⟨rfl,H.out⟩
def vh(w:aa)(eb:Nat)(L:Nat->Nat):Prop:=eb<w.heap.size/\∀j,j<4->(∃a n c,w.cell? ⟨eb,34+j*2,none⟩=some (.slice a n c))/\∃a c,w.cell? ⟨eb,34+j*2+1,none⟩=some (.slice a (L j) c)
def vh.kept{w w':aa}{eb:Nat}{L:Nat->Nat}(h:vh w eb L)(i:w.grownBy w' none):vh w' eb L:=⟨dm h.1 i.size,λj u=>by
 obtain⟨⟨a,n,c,e⟩,G,y,o⟩:=h.2 j u;exact⟨⟨a,n,c,(bd i (a:=ay eb (34+j*2)) h.1).1.trans e⟩,G,y,(bd i (a:=ay eb (34+j*2+1)) h.1).1.trans o⟩⟩
def EX(eb:Nat)(L:Nat->Nat)(w:aa)(h:vh w eb L):Calls prog 191 #[.slice (some (ay eb 34)) 4 4,Fv 138 #[]] w λe w'=>(∃x:Int,e=.returned (aj x)/\(0<=x↔∃k,k<4/\L k≠0))/\w.grownBy w' none:=by
 have HS:=bj h;go_in;go_wp2_with fail
 go_loopw [8] (λi wr=>∃j:Nat,i=aj j/\j<=4/\Hid (∀k,k<j->L k=0)/\Hid (w.grownBy wr none)) (λi _=>4-(intOf i).toNat)
 case atStart=>exact⟨0,rfl,ag,(λk hk=>by omega),aw _ _⟩
 case round=>
  obtain⟨j,rfl,hj,rL,Y⟩:=hrel;have hS:=HS.out.kept Y.out;by_cases W:j<4
  .obtain⟨⟨a1,n1,c1,e1⟩,a2,c2,H⟩:=hS.2 j W;have J:(j:Int)<4:=ag
   have o:=bj (GC (.slice a1 n1 c1) a2 (L j) c2 ⟨_,_,_,rfl⟩ wr);by_cases G:L j=0
   .have Z:=bj G;rw[show decide (L j≠0)=false by grind]at o;clear G;go_wp2_with fail
    refine du o λw2 u=>?_;have y:=bj (ar Y.out u);clear u e1 H o;go_wp2_with fail
    go_roundw
    case rel=>
     refine⟨j+1,eB,ag,(λk hk=>?_),y⟩;by_cases e:k=j
     .rw[e];exact Z.out
     exact rL.out k ag
    case measure=>simp[intOf];omega
   have Z:=bj G;rw[show decide (L j≠0)=true by grind]at o;clear G;go_wp2_with fail
   refine du o λw2 u=>?_;have y:=bj (ar Y.out u);clear u e1 H o;go_wp2_with fail
   go_ret;exact⟨⟨_,rfl,⟨λ_=>⟨j,W,Z.out⟩,λ_=>by omega⟩⟩,y.out⟩
  have J:¬((j:Int)<4):=ag
  go_wp2_with fail
  go_ret;exact⟨⟨_,rfl,⟨λe=>dp e ag,λe=>by
   obtain⟨k,k1,k2⟩:=e;exact dp (rL.out k ag) k2⟩⟩,Y.out⟩
def vC(eb:Nat)(L:Nat->Nat)(w:aa)(h:vh w eb L):Calls prog 139 #[.slice (some (ay eb 34)) 4 4,Fv 138 #[]] w λe w'=>(∃b:Bool,e=.returned (.bool b)/\(b=true↔∃k,k<4/\L k≠0))/\w.grownBy w' none:=by
 have HS:=bj h;go_in;go_wp2_with fail
 refine(EX eb L w HS).mono ?_;rintro e w2 ⟨⟨x,rfl,hx⟩,hg2⟩;change Hid _ at hg2 hx
 cases hd:decide (0<=x)
 .have HD:=bj (gG hd);go_wp2
  go_ret;exact⟨⟨_,rfl,⟨λe=>(by grind),λe=>dp (hx.2 e) eR⟩⟩,hg2⟩
 have HD:=bj (gG hd);go_wp2
 go_ret;exact⟨⟨_,rfl,⟨λ_=>hx.1 HD,λ_=>by grind⟩⟩,hg2⟩
def F4(eb n c:Nat)(L:Nat->Nat)(a:Option Addr)(w:aa)(u:w.cell? (ay eb 33)=some (.slice a n c))(h:vh w eb L):Calls prog 71 #[P0 eb] w λe w'=>(∃b:Bool,e=.returned (.bool b)/\(b=true↔(n≠0\/∃k,k<4/\L k≠0)))/\w.grownBy w' none:=by
 have HS:=bj h;have le:=h.1;by_cases hn:n=0
 .have i:=gL eb 33 n c a w u;rw[show decide (n=0)=true by grind]at i;have o:=bj i;have G:=bj hn;go_in;go_wp2_with fail
  refine du o ?_;rintro w1 rfl;go_wp2_with fail
  refine(vC eb L _ HS).mono ?_;rintro e w2 ⟨⟨b,rfl,W⟩,y⟩;have H:=bj y;have J:=bj W;go_wp2
  go_ret;simp_all
 have i:=gL eb 33 n c a w u;rw[show decide (n=0)=false by grind]at i;have o:=bj i;have G:=bj hn;go_in;go_wp2_with fail
 refine du o ?_;rintro w1 rfl;go_wp2
 go_ret;exact⟨⟨_,rfl,⟨λ_=>af G,λ_=>rfl⟩⟩,aw _ _⟩
def MB(sp:Bool)(n29 n32 n33:Nat)(L:Nat->Nat)(x:Int):Prop:=(sp=true->x=5)/\(sp=false->n29=0->x=4)/\(sp=false->n29≠0->n32≠0->x=1)/\(sp=false->n29≠0->n32=0->(n33≠0\/∃k,k<4/\L k≠0)->x=2)/\(sp=false->n29≠0->n32=0->¬(n33≠0\/∃k,k<4/\L k≠0)->x=3)
def Gg(eb:Nat)(sp:Bool)(L:Nat->Nat)(y a8 G a5 Z a0:Nat)(a4 a1 a6:Option Addr)(w:aa)(a9:w.cell? (ay eb 42)=some (.bool sp))(a3:w.cell? (ay eb 29)=some (.slice a4 y a8))(a2:w.cell? (ay eb 32)=some (.slice a1 G a5))(a7:w.cell? (ay eb 33)=some (.slice a6 Z a0))(h:vh w eb L): Calls prog 42 #[P0 eb] w λe w'=>(∃x:Int,e=.returned (aj x)/\MB sp y G Z L x)/\w.grownBy w' none:=by
 have o:=vT eb y a8 a4 w a3;have i:=gL eb 32 G a5 a1 w a2;have HW:=bj (F4 eb Z a0 L a6 w a7 h);have le:=h.1
 cases sp
 .by_cases H:y=0
  .have W:=bj H;rw[show decide (0<y)=false by grind]at o;have J:=bj o;go_in;go_wp2_with fail
   refine du J ?_;rintro w4 rfl;go_wp2
   go_ret;exact⟨⟨4,rfl,(λe=>by cases e),(λ_ _=>rfl),(λ_ e=>dp W e),(λ_ e=>dp W e),(λ_ e=>dp W e)⟩,aw _ _⟩
  have W:=bj H;rw[show decide (0<y)=true by grind]at o;have J:=bj o;by_cases u:G=0
  .have HQ:=bj u;rw[show decide (G=0)=true by grind]at i;have Y:=bj i;go_in;go_wp2_with fail
   refine du J ?_;rintro w4 rfl;go_wp2_with fail
   refine du Y ?_;rintro w5 rfl;go_wp2_with fail
   refine HW.mono ?_;rintro e w6 ⟨⟨b,rfl,hb⟩,hg⟩;have KG:=bj hg;have HB:=bj hb
   cases b
   .go_wp2
    go_ret;exact⟨⟨3,rfl,(λe=>by cases e),(λ_ e=>dp e W),(λ_ _ e=>dp HQ e),(λ_ _ _ e=>by grind),(λ_ _ _ _=>rfl)⟩,KG⟩
   go_wp2
   go_ret;exact⟨⟨2,rfl,(λe=>by cases e),(λ_ e=>dp e W),(λ_ _ e=>dp HQ e),(λ_ _ _ _=>rfl),(λ_ _ _ e=>dp (HB.1 eR) e)⟩,KG⟩
  have HQ:=bj u;rw[show decide (G=0)=false by grind]at i;have Y:=bj i;go_in;go_wp2_with fail
  refine du J ?_;rintro w4 rfl;go_wp2_with fail
  refine du Y ?_;rintro w5 rfl;go_wp2
  go_ret;exact⟨⟨1,rfl,(λe=>by cases e),(λ_ e=>dp e W),(λ_ _ _=>rfl),(λ_ _ e=>dp e HQ),(λ_ _ e=>dp e HQ)⟩,aw _ _⟩
 go_in;go_wp2
 go_ret;exact⟨⟨5,rfl,(λ_=>rfl),(λe=>by cases e),(λe=>by cases e),(λe=>by cases e),(λe=>by cases e)⟩,aw _ _⟩
