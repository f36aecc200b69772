import Derived.Test.YtnjiinbhbjpfkaaGreatDoorTB
set_option maxRecDepth 100000
set_option maxHeartbeats 0
set_option linter.all false
namespace Go.Proofs.YtnjiinbhbjpfkaaGreatDoor
open Go.RowKit Go.Proofs.Tryz
section
theorem Mv(g c n i J:Nat)(xs:List Value)(w:aa)(a0:w.ownsRow J 5 1 (.slice (some ⟨g,0,none⟩) n c) n xs)(aI:i<n)(h1:∀x,x∈xs->x.oneCell'=true)(aF:n<=1000000000): Calls prog 208 #[.slice (some ⟨g,0,none⟩) n c,.int .i64 (i:Int),.int .i64 ((i:Int)+1)] w λe w'=>e=.returned (.slice (some ⟨g,0,none⟩) (n-1) c)/\w'.ownsRow J 5 1 (.slice (some ⟨g,0,none⟩) (n-1) c) (n-1) (xs.eraseIdx i)/\w.grownBy w' (some g):=by
 obtain⟨hb,hc,hm,hl,hB,y⟩:=gZ a0;clear a0;obtain⟨i0,hi,a6,a4,a9⟩:=info_parts Tryz.IB;have hv:∀w,(zeroValue 5).run prog w=.ok (.int .u8 0) w:=by intro w;simp[zeroValue,typeInfo,hi,a6]
 have W:∀(ty:TypeId) (w1:aa) (G:Nat),jF w1 g 5 c->(Builtin.clear_ #[86] ty #[.slice (some ⟨g,n-1,none⟩) 1 G]).run prog w1=.ok (.tuple #[]) (w1.setCell ⟨g,n-1,none⟩ (.int .u8 0)):=by
  intro ty w1 G a2;refine Go.Lib.run_clear_slice (P:=prog) w1 86 5 ty (.int .u8 0) Tryz.underlying86 hv rfl rfl g (n-1) 1 G ag ?_ ?_
  .intro j Z;obtain⟨⟨v,h⟩,_⟩:=a2.cell (n-1+j) ag;rw[h];rfl
  intro j Z;exact(a2.cell (n-1+j) ag).2
 have aG:i<=c:=ag
 have aA:(0:Int)<=(i:Int)+1:=ag
 have a8:i+1<=c:=ag
 have aC:(n:Int)<=(c:Int):=ag
 have aE:(i:Int)+1<=(n:Int):=ag
 have aH:(c:Int)<=9223372036854775807:=by unfold maxLen at hm;omega
 have HB:=bj hB;have HX:=bj y;have H1:=bj h1;have H:=bj hl;have Y:=bj W;have HM:=bj hm;clear hB y h1 hl W hm;by_cases o:i+1=n
 .obtain rfl:n=i+1:=o.symm;have cl:∀(ty:TypeId) (G:Nat),(Builtin.clear_ #[86] ty #[.slice (some ⟨g,i,none⟩) 1 G]).run prog w.drew=.ok (.tuple #[]) (w.drew.setCell ⟨g,i,none⟩ (.int .u8 0)):=λty G=>Y.out ty w.drew G HB.out;clear o;go_in;go_wp2_with fail
  go_region_law (refine ld rfl (.tmp 22) (.tmp 25) 86 rfl 5 i0 Tryz.underlying86 hi (some ⟨g,0,none⟩) (if c=i+1 then some ⟨g,0,none⟩ else some ⟨g,i+1,none⟩) i c (c-(i+1)) mB mB ag ?_)
  all_goals
   go_wp2_with fail
   all_goals
    go_ret;refine⟨rfl,nD hb ag (gp HM.out) (by rw[List.length_eraseIdx,bf (kr H.out),H.out];omega) (by obtain⟨cu,k1,k2⟩:=HB.out.set g i (.int .u8 0);exact⟨cu,k1,ag⟩) (λj x y=>?_),?_⟩
    .have Z:j<i:=by
      have:=(cf.1 y).1;rw[List.length_eraseIdx,bf (kr H.out),H.out]at this;omega
     rw[List.getElem?_eraseIdx_of_lt Z]at y;have:=HX.out j x y;have h2:(World.setCell w ⟨g,i,none⟩ (.int .u8 0)).cell? ⟨g,j,none⟩=some x:=by
      rw[dH _ _ _ _ AA];exact this
     exact h2
    repeat (first|exact aw _ _|refine bo ?_|refine bu ?_ (af rfl) _)
 obtain⟨m,a7⟩:∃m,n=i+1+m:=⟨n-(i+1),ag⟩;have aD:1<=m:=ag
 subst a7;have aB:¬c=i+1:=ag
 have r1:(xs.drop (i+1)).length=m*1:=by rw[List.length_drop,H.out,Nat.mul_one];omega
 have r2:∀j u,(xs.drop (i+1))[j]? = some u->w.drew.cell? ((⟨g,i+1,none⟩:Addr).add j)=some u:=λj u hu=>by
  rw[List.getElem?_drop]at hu;have:=HX.out (i+1+j) u hu
  cases j with
  | zero=>simpa[Addr.add] using this
  | succ j=>simpa[Addr.add] using this
 have r3:∀u,u∈xs.drop (i+1)->u.oneCell'=true:=λu hu=>H1.out u (List.mem_of_mem_drop hu);have r5:∀j,j<(xs.drop (i+1)).length->(w.drew.cell? ⟨g,0+i*1+j,none⟩).isSome=true/\w.drew.frozen? ⟨g,0+i*1+j,none⟩=false:=λj Z=>by
  rw[r1]at Z;obtain⟨⟨v,h⟩,hf⟩:=HB.out.cell (0+i*1+j) ag;have h':w.drew.cell? ⟨g,0+i*1+j,none⟩=some v:=h;exact⟨jx h',hf⟩
 have HR:=bj (bh r1 (bh r2 (bh r3 r5)));have e1:i+1+m-(i+1)=m:=ag
 have e2:i+1+m-(i+m)=1:=ag
 have e3:i+m<=c:=ag
 have e6:(i:Int)+1<=(i:Int)+1+(m:Int):=ag
 have BS:jF (w.drew.setCells g i (xs.drop (i+1))) g 5 c:=jF.wO g _ _ _ (show jF w.drew g 5 c from HB.out);have cl:=λty G=>by
  have:=Y.out ty _ G BS;rw[show i+1+m-1=i+m by omega]at this;exact this
 have a5:=bj BS;clear r1 r2 r3 r5 o BS;go_in;go_wp2_with fail
 go_region_law (refine step_append_room rfl (.tmp 22) (.tmp 25) 86 rfl 5 i0 1 Tryz.underlying86 hi a4 g 0 i c mB ⟨g,i+1,none⟩ m (c-(i+1)) (xs.drop (i+1)) mB HR.out.1 HR.out.2.1 HR.out.2.2.1 ag HR.out.2.2.2 ?_)
 all_goals
  go_wp2_with fail
  go_ret;rw[show i+1+m-1=i+m by omega];have a1:∀j,j<(xs.drop (i+1)).length->(w.drew.cell? ⟨g,i+j,none⟩).isSome=true:=λj Z=>by
   have:=(HR.out.2.2.2 j Z).1;simpa using this
  refine⟨rfl,nD hb ag HM.out (by rw[List.length_eraseIdx,bf (kr H.out),H.out];omega) (by obtain⟨cu,k1,k2⟩:=a5.out.set g (i+m) (.int .u8 0);exact⟨cu,k1,k2⟩) (λj x y=>?_),?_⟩
  .have Z:j<i+m:=by
    have:=(cf.1 y).1;rw[List.length_eraseIdx,bf (kr H.out),H.out]at this;omega
   have h2:((w.drew.setCells g i (xs.drop (i+1))).setCell ⟨g,i+m,none⟩ (.int .u8 0)).cell? ⟨g,j,none⟩=some x:=by
    rw[dH _ _ _ _ AA];by_cases a3:j<i
    .rw[World.cell?_setCells_out g _ _ _ _ (λ_ _=>af a3)];rw[List.getElem?_eraseIdx_of_lt a3]at y;exact HX.out j x y
    obtain⟨t,rfl⟩:∃t,j=i+t:=⟨j-i,ag⟩;rw[List.getElem?_eraseIdx_of_ge ag]at y;have hd:(xs.drop (i+1))[t]? = some x:=by rw[List.getElem?_drop,<-y];congr 1;omega
    have ht:=(cf.1 hd).1;rw[World.cell?_setCells_in g _ _ _ a1 t ht];obtain⟨_,hv⟩:=cf.1 hd;rw[hv]
   exact h2
  repeat (first|exact aw _ _|refine bo ?_|refine bu ?_ (af rfl) _|refine mO g ?_ _ _)
def iI(bs:List Nat):List Value:=bs.map (λ(x:Nat)=>Value.int .u8 (x:Int))
theorem BY(eb o c:Nat)(ad:Option Addr)(w:aa)(h:w.cell? (ay eb o)=some (.slice ad 0 c)): dD 174 #[Pt eb o] w (.tuple #[dy 0,.bool false]) λw'=>w'=w:=by
 delta dD;go_in;go_wp2
 go_ret2
 simp_all
theorem BX(eb o g c N x:Nat)(T:TypeId)(bs:List Nat)(E:Nat->Value)(w:aa)(J:Full w eb T N N E)(ho:o<N)(he:E o=dA g (bs.length+1) c)(i:w.ownsRow 0 5 1 (dA g (bs.length+1) c) (bs.length+1) (iI (x :: bs)))(hn:bs.length<=1000)(Z:g≠eb): dD 174 #[Pt eb o] w (.tuple #[dy x,.bool true]) λw'=>Full w' eb T N N (eC E o (dA g bs.length c))/\w'.ownsRow 0 5 1 (dA g bs.length c) bs.length (iI bs)/\dM (λk=>k=eb\/k=g) w w':=by
 obtain⟨c0,z0⟩:=J.cells o ho;rw[he]at c0;have q0:dS w g 0=some (dy x):=(gZ i).2.2.2.2.2 0 _ rfl;have HD:Hid (dD 208 #[dA g (bs.length+1) c,aj 0,aj 1] w (dA g bs.length c) λw'=>w'.ownsRow 0 5 1 (dA g bs.length c) bs.length (iI bs)/\w.grownBy w' (some g)):=by
  have:=Mv g c (bs.length+1) 0 0 (iI (x :: bs)) w i ag (λy hy=>by obtain⟨z,_,rfl⟩:=eK.1 hy;rfl) ag;refine bj ?_;simpa[iI] using this
 have HE:=bj J;generalize bs.length=n at *;delta dD;go_in;go_wp2_with fail
 refine du HD ?_;rintro w1 ⟨H,u⟩;have G:=bj (HE.kept u (λe=>Z e.symm));obtain⟨d0,e0⟩:=G.cells o ho;have Y:=bj H;have W:=bj u;go_wp2
 go_ret2
 refine⟨rfl,G.eC o _,dQ Y (λk h=>?_),bp (jB W (ah rfl)) (af (af rfl)) _⟩;have hk:k=g:=by injection h with h;exact h.symm
 grind[Below.heap_setCell]
theorem Eo(b:Nat)(s:ByteArray)(p i hi:Int)(w:aa)(h:w.heap[b]? = some (jZ s p true)): dD 53 #[.pointer (some (ay b 0)),aj i,aj hi] w (aj i) λw'=>∃n,w'=(w.drewN n).setCell (ay b 2) (.bool true):=by
 obtain⟨c0,c1,y⟩:=ij h;obtain⟨o,u⟩:=lh h;delta dD;go_in;go_wp2
 go_quiet (fail)
 go_wp2
 go_ret;exact⟨rfl,_,rfl⟩
theorem Er(b:Nat)(s:ByteArray)(i hi:Int)(w:aa)(h:w.heap[b]? = some (jZ s s.size false)): dD 53 #[.pointer (some (ay b 0)),aj i,aj hi] w (aj i) λw'=>∃n,w'=(w.drewN n).setCell (ay b 2) (.bool true):=by
 obtain⟨c0,c1,y⟩:=ij h;obtain⟨o,u⟩:=lh h;delta dD;go_in;go_wp2
 go_quiet (fail)
 go_wp2
 go_ret;exact⟨rfl,_,rfl⟩
theorem Ep(b:Nat)(s:ByteArray)(p:Nat)(i hi:Int)(w:aa)(h:w.heap[b]? = some (jZ s p false))(y:p<s.size)(hx:(s[p].toNat:Int)<i): dD 53 #[.pointer (some (ay b 0)),aj i,aj hi] w (aj i) λw'=>∃n,w'=(w.drewN n).setCell (ay b 2) (.bool true):=by
 obtain⟨c0,c1,J⟩:=ij h;obtain⟨G,H⟩:=lh h;have o:s[p].toNat<256:=fg _;have u:IntKind.i64.wrap (s[p].toNat:Int)=(s[p].toNat:Int):=iU
 have g1:decide (s.size<=p)=false:=fH
 delta dD;go_in;go_wp2
 go_quiet (fail)
 go_wp2
 go_ret;exact⟨rfl,_,rfl⟩
theorem Cq(b:Nat)(s:ByteArray)(p:Nat)(i hi:Int)(w:aa)(h:w.heap[b]? = some (jZ s p false))(G:p<s.size)(y:i<=(s[p].toNat:Int))(hx:hi<(s[p].toNat:Int)): dD 53 #[.pointer (some (ay b 0)),aj i,aj hi] w (aj i) λw'=>∃n,w'=(w.drewN n).setCell (ay b 2) (.bool true):=by
 obtain⟨c0,c1,Y⟩:=ij h;obtain⟨J,W⟩:=lh h;have o:s[p].toNat<256:=fg _;have u:IntKind.i64.wrap (s[p].toNat:Int)=(s[p].toNat:Int):=iU
 have g1:decide (s.size<=p)=false:=fH
 have Z:decide ((s[p].toNat:Int)<i)=false:=gG y
 delta dD;go_in;go_wp2
 go_quiet (fail)
 go_wp2
 go_ret;exact⟨rfl,_,rfl⟩
theorem En(b:Nat)(s:ByteArray)(p:Nat)(i hi:Int)(w:aa)(h:w.heap[b]? = some (jZ s p false))(H:s.size<=9223372036854775807)(hp:p<s.size)(G:i<=(s[p].toNat:Int))(hx:(s[p].toNat:Int)<=hi): dD 53 #[.pointer (some (ay b 0)),aj i,aj hi] w (aj (s[p].toNat:Int)) λw'=>∃n m,w'=((w.drewN n).setCell (ay b 1) (aj (p+1))).drewN m:=by
 obtain⟨c0,c1,Z⟩:=ij h;obtain⟨W,Y⟩:=lh h;have o:s[p].toNat<256:=fg _;have u:IntKind.i64.wrap (s[p].toNat:Int)=(s[p].toNat:Int):=iU
 have g1:decide (s.size<=p)=false:=fH
 have g2:decide ((s[p].toNat:Int)<i)=false:=gG G
 have J:decide (hi<(s[p].toNat:Int))=false:=gG hx
 have y:IntKind.i64.wrap ((p:Int)+1-1)=(p:Int):=by rw[fq,dN _ ag];omega
 delta dD;go_in;go_wp2
 go_quiet (fail)
 go_wp2
 go_quiet (fail)
 go_wp2
 go_ret;exact⟨rfl,_,_,rfl⟩
theorem jK(b:Nat)(s:ByteArray)(p L H:Nat)(i hi:Int)(w:aa)(h:w.heap[b]? = some (jZ s p false))(u:s.size<=maxLen)(W:i=L)(J:hi=H)(ht:M.tk s p L H=true): dD 53 #[.pointer (some (ay b 0)),aj i,aj hi] w (aj (M.bt s p)) λw'=>w'.heap[b]? = some (jZ s ((p+1:Nat):Int) false)/\w.grownBy w' (some b):=by
 obtain⟨o,G,y⟩:=M.gU ht;have e:=M.nu s p o;rw[e]at G y ⊢;refine du (En b s p i hi w h (by grind[maxLen]) o ag ag) ?_;rintro w' ⟨n,m,rfl⟩;exact⟨rfl,Ea (w:=w.drewN n) h _,df (bu (df (aw _ _) _) (af rfl) _) _⟩
theorem qY(b:Nat)(s:ByteArray)(p L H:Nat)(bad:Bool)(i hi:Int)(w:aa)(h:w.heap[b]? = some (jZ s p bad))(Y:p<=s.size)(G:i=L)(y:hi=H)(ht:bad=true\/M.tk s p L H=false): dD 53 #[.pointer (some (ay b 0)),aj i,aj hi] w (aj i) λw'=>w'.heap[b]? = some (jZ s p true)/\w.grownBy w' (some b):=by
 have fin:∀n,(((w.drewN n).setCell (ay b 2) (.bool true)).heap[b]? = some (jZ s p true))/\w.grownBy ((w.drewN n).setCell (ay b 2) (.bool true)) (some b):=λn=>
  ⟨yt (w:=w.drewN n) h _,bu (df (aw _ _) _) (af rfl) _⟩
 cases bad with
 | true=>
  refine du (Eo b s p i hi w h) ?_;grind
 | false=>
  have o:M.tk s p L H=false:=gG ht;by_cases u:p<s.size
  .have e:=M.nu s p u;by_cases W:M.bt s p<L
   .refine du (Ep b s p i hi w h u ag) ?_;grind
   have J:H<M.bt s p:=by simp[M.tk]at o;omega
   refine du (Cq b s p i hi w h u ag ag) ?_;grind
  obtain rfl:p=s.size:=by omega
  refine du (Er b s i hi w h) ?_;grind
def KL:List Value:=[.string { data:=#[114,107,107] },.string { data:=#[114,114,45] },.string { data:=#[114,114,114] },.string { data:=#[114,114,114] },.string { data:=#[114,114,114] },.string { data:=#[114,114,114] },.string { data:=#[114,114,114] },.string { data:=#[45,116,116] },.string { data:=#[114,116,116] },.string { data:=#[114,115,45] },.string { data:=#[114,114,114] },.string { data:=#[114,114,114] },.string { data:=#[114,102,114] },.string { data:=#[114,114,114] },.string { data:=#[114,45,45] },.string { data:=#[114,114,114] },.string { data:=#[45,45,45] },.string { data:=#[114,45,45] },.string { data:=#[114,114,45] },.string { data:=#[114,45,45] },.string { data:=#[114,45,45] },.string { data:=#[114,114,45] },.string { data:=#[114,45,45] }]
def Kk:KL=(List.range 23).map (λi=>Value.string (M.KS i)):=by rfl
def MJ(op:Nat)(h:op<KL.length):KL[op]=.string (M.KS op):=by
 have i:KL[op]? = some (.string (M.KS op)):=by
  have e:op<23:=h;rw[Kk];simp[e]
 exact(List.getElem_eq_iff h).2 i
theorem vV(op:Nat)(w:aa)(h:op<23): dD 80 #[aj op] w (.string (M.KS op)) λw'=>Below w.heap.size w w':=by
 delta dD;go_in;go_wp2
 go_ret;exact⟨congrArg Ending.returned (MJ op h),(fQ _ _).alloc (bq _) _⟩
