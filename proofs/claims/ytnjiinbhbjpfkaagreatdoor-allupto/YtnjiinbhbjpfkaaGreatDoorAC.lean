import Derived.Test.YtnjiinbhbjpfkaaGreatDoorAA
import Derived.Defers
import Derived.Laws.LoneSync
set_option maxRecDepth 100000
set_option maxHeartbeats 0
set_option linter.all false
namespace Go.Proofs.YtnjiinbhbjpfkaaGreatDoor
open Go.RowKit Go.Proofs.Tryz
section
def Tryz.FP:(prog.info? 184).map (λi=>(i.zero,i.size,i.bytes))=some (some<|.pointer none,1,8):=by kernel_rfl
theorem oi(j:Nat):eR (λ_=>((0,0):B.V)) j=ah 0:=by grind[eR]
theorem Da{w:aa}{g b e:Nat}(h:w.ownsRow e 149 2 (dD g b b) b (madeCells #[ah 0,ah 0]<|b*2).toList):Full w g 149 (b*2) (b*2) (eR<|λ_=>(0,0)):=by
 rcases h.2 with⟨h,_⟩|⟨g',u,i,H,h2,Y,h4,Z,J,W⟩
 .cases h
 cases H;refine⟨i,Y,J,λj y=>?_⟩;have o:=congrArg (λl=>l[j]?) W;have G:(madeCells #[ah 0,ah 0]<|b*2).toList[j]?=some (ah 0):=by
  simp only[madeCells,Array.getElem?_toList,Array.getElem?_map,Array.getElem?_range];rw[bf y];have:j%2=0\/j%2=1:=by omega
  rcases this with h|h<;>simp[h]
 simp only[G,dP]at o;simp_all[bf,oi]
theorem OO(eb tb:Nat)(v:B.V)(R:aa->Prop)(w:aa)(H:∀w1,w.grownBy w1 none->eN 175 #[P0 eb,P0 tb,vA v,ah 2,ah v.2] w1 λw'=>R w'):eN 121 #[P0 eb,P0 tb,vA v] w λw'=>R w':=by
 have J:=bj H;obtain⟨y,W⟩:=v;delta eN;go_in;go_wp2_with fail
 refine dq (gp (y,W) _) λw1 i=>?_;let⟨k0,_⟩:=ay i (a:=az (fp w) 0) eG;let⟨k1,_⟩:=ay i (a:=az (fp w) 1) eG;simp[go_sem]at k0 k1;have G:=bj<|ar (aj _ _ _) i;go_wp2_with fail
 refine dq (J w1 G) λw2 o=>?_;have u:=bj o;go_wp2
 go_end0;grind
theorem Nf(eb tb why:Nat)(hw:why<=8)(R:aa->Prop)(w:aa)(H:∀w1,w.grownBy w1 none->eN 175 #[P0 eb,P0 tb,vA (0,-(why:Int)),ah 3,ah why] w1 λw'=>R w'):eN 187 #[P0 eb,P0 tb,ah why] w λw'=>R w':=by
 have u:=bj H;have G:IntKind.i64.wrap (-(why:Int))=-(why:Int):=by simp[IntKind.wrap,IntKind.bits,IntKind.signed];omega
 delta eN;go_in;go_wp2_with fail
 refine dq (fK _ _) ?_;rintro w1 rfl;go_wp2_with fail
 refine dq (u _<|aj _ _ _) λw2 i=>?_;have o:=bj i;go_wp2
 go_end0;grind
theorem Ge(eb tb:Nat)(R:aa->Prop)(w:aa)(H:∀w1,w.grownBy w1 none->eN 175 #[P0 eb,P0 tb,vA (0,-100),ah 4,ah 0] w1 λw'=>R w'):eN 172 #[P0 eb,P0 tb] w λw'=>R w':=by
 have u:=bj H;delta eN;go_in;go_wp2_with fail
 refine dq (fK _ _) ?_;rintro w1 rfl;go_wp2_with fail
 refine dq (u _<|aj _ _ _) λw2 i=>?_;have o:=bj i;go_wp2
 go_end0;grind
theorem I8(eb tb xe xt:Nat)(v:B.V)(R:aa->Prop)(w:aa)(he:w.cell? (az xe 0)=some (P0 eb))(ht:w.cell? (az xt 0)=some (P0 tb))(le:xe<w.heap.size)(lt:xt<w.heap.size)(H:∀w1,w.grownBy w1 none->eN 175 #[P0 eb,P0 tb,vA v,ah 2,ah v.2] w1 λw'=>R w'):eN 120 #[vA v,P0 xe,P0 xt] w λw'=>R w':=by
 have y:=bj<|OO eb tb v R;have u:=bj H;obtain⟨J,W⟩:=v;delta eN;go_in;go_wp2_with fail
 refine dq (y _<|λw1 G=>u w1<|ar (aj _ _ _) G) λw2 i=>?_;have o:=bj i;go_wp2
 go_end0;grind
theorem disable(w:aa):(callFunc 122 #[]).run prog w=.ok (.value<|.tuple #[]) w:=run_call_mark0 func122 eW eW eW .disable eW w
theorem enable(w:aa):(callFunc 124 #[]).run prog w=.ok (.value<|.tuple #[]) w:=run_call_mark0 func124 eW eW eW .enable eW w
theorem acquire(a:Addr)(w:aa):(callFunc 125 #[.pointer<|some a]).run prog w=.ok (.value<|.tuple #[]) w:=run_call_marked func125 eW eW eW .acquire eW a w
theorem releaseMerge(a:Addr)(w:aa):(callFunc 127 #[.pointer<|some a]).run prog w=.ok (.value<|.tuple #[]) w:=run_call_marked func127 eW eW eW .releaseMerge eW a w
theorem iJ(a:Addr)(u:FrameMode)(w:aa)(i:w.cell? a=some (.int .i32 1))(hz:w.frozen? a=false):CallsD prog 40 #[.pointer<|some a] u w λe H w'=>H=u/\(e=.returned (.tuple #[])/\w'=w.setCell a (.int .i32 0)):=by
 have J:=disable;have he:=enable;have W:=releaseMerge;have G:=run_convert_to_unsafe (P:=prog) (src:=210) (dst:=214) underlying210 underlying214 eW i;have o:=run_call_add (P:=prog) func128 eW eW eW .i32 eW (y:=-1) (s:=0) i hz (by simp[go_sem];rfl);go_enter_d func40,ntmps40
 go_wp2
 go_end0;go_wp2
 go_end0;grind
theorem ou(b:Nat)(w:aa)(u:w.cell? (az b 0)=some (.int .i32 0))(G:w.frozen? (az b 0)=false):eN 39 #[P0 b] w λw'=>w'=w.setCell (az b 0) (.int .i32 1):=by
 have J:=disable;have he:=enable;have W:=acquire;have o:=run_call_cas_hit (P:=prog) func123 eW eW eW .i32 eW (y:=1) u G;have i:dW (w.setCell (az b 0)<|.int .i32 1) b 0=some (.int .i32 1):=by simp[go_sem,u]
 have H:=run_convert_to_unsafe (P:=prog) (src:=210) (dst:=214) underlying210 underlying214 eW i;delta eN;go_in;go_wp2
 first|go_end0|(simp only[Exit.inBlock,Exit.then];refine dg (results_none rfl _ _ _) rfl ?_)|refine dg (results_none rfl _ _ _) rfl ?_
 go_wp2
 go_end0;grind
theorem As(mb eb o c0:Nat)(i:Option Addr)(ticks:Int)(w:aa)(H:w.cell? (az mb 0)=some (.int .i32 0))(y:w.frozen? (az mb 0)=false)(W:w.cell? (az mb 2)=some (P0 eb))(R:Value->aa->Prop)(u:Hid (Calls prog 41 #[P0 eb,ah ticks,.slice i o c0] (w.setCell (az mb 0)<|.int .i32 1) λe w'=>∃ad n c,e=.returned (.slice ad n c)/\w'.cell? (az mb 0)=some (.int .i32 1)/\w'.frozen? (az mb 0)=false/\R (.slice ad n c) w')):Calls prog 24 #[P0 mb,ah ticks,.slice i o c0] w λe w'=>∃v w1,e=.returned v/\R v w1/\w'=w1.setCell (az mb 0) (.int .i32 0):=by
 go_enter_defers func24,ntmps24
 go_wp2_with fail
 refine dq (ou mb w H y) ?_;rintro w1 rfl;go_wp2_with fail
 refine u.mono ?_;rintro e w2 ⟨ad,n,c,rfl,c0,c1,hR⟩;have G:=mz hR;go_wp2_with fail
 refine leaves_cons (f:=40) (args:=#[P0 mb]) eG (by simp[go_sem]) ?_;refine(iJ (az mb 0) .returning _ c0 c1).mono ?_;rintro e J w'' ⟨rfl,rfl,rfl⟩;exact⟨_,results_tmp rfl _ _ _,.slice ad n c,w2,rfl,G,rfl⟩
theorem AD(mb eb:Nat)(w:aa)(y:w.cell? (az mb 0)=some (.int .i32 0))(o:w.frozen? (az mb 0)=false)(H:w.cell? (az mb 2)=some (P0 eb))(R:Value->aa->Prop)(i:Hid (Calls prog 43 #[P0 eb] (w.setCell (az mb 0)<|.int .i32 1) λe w'=>∃ad n c,e=.returned (.slice ad n c)/\w'.cell? (az mb 0)=some (.int .i32 1)/\w'.frozen? (az mb 0)=false/\R (.slice ad n c) w')):Calls prog 26 #[P0 mb] w λe w'=>∃v w1,e=.returned v/\R v w1/\w'=w1.setCell (az mb 0) (.int .i32 0):=by
 go_enter_defers func26,ntmps26
 go_wp2_with fail
 refine dq (ou mb w y o) ?_;rintro w1 rfl;go_wp2_with fail
 refine i.mono ?_;rintro e w2 ⟨ad,n,c,rfl,c0,c1,hR⟩;have u:=mz hR;go_wp2_with fail
 refine leaves_cons (f:=40) (args:=#[P0 mb]) eG (by simp[go_sem]) ?_;refine(iJ (az mb 0) .returning _ c0 c1).mono ?_;rintro e G w'' ⟨rfl,rfl,rfl⟩;exact⟨_,results_tmp rfl _ _ _,.slice ad n c,w2,rfl,u,rfl⟩
theorem yK(mb eb:Nat)(w:aa)(y:w.cell? (az mb 0)=some (.int .i32 0))(o:w.frozen? (az mb 0)=false)(H:w.cell? (az mb 2)=some (P0 eb))(R:Int->aa->Prop)(i:Hid (Calls prog 42 #[P0 eb] (w.setCell (az mb 0)<|.int .i32 1) λe w'=>∃x:Int,e=.returned (ah x)/\w'.cell? (az mb 0)=some (.int .i32 1)/\w'.frozen? (az mb 0)=false/\R x w')):Calls prog 25 #[P0 mb] w λe w'=>∃x w1,e=.returned (ah x)/\R x w1/\w'=w1.setCell (az mb 0) (.int .i32 0):=by
 go_enter_defers func25,ntmps25
 go_wp2_with fail
 refine dq (ou mb w y o) ?_;rintro w1 rfl;go_wp2_with fail
 refine i.mono ?_;rintro e w2 ⟨x,rfl,c0,c1,hR⟩;have u:=mz hR;go_wp2_with fail
 refine leaves_cons (f:=40) (args:=#[P0 mb]) eG (by simp[go_sem]) ?_;refine(iJ (az mb 0) .returning _ c0 c1).mono ?_;rintro e G w'' ⟨rfl,rfl,rfl⟩;exact⟨_,results_tmp rfl _ _ _,x,w2,rfl,u,rfl⟩
end
namespace M
def nx(s:ByteArray)(hi:Nat)(q:Nat)(bad:Bool):Nat×Bool:=
 if bad=true then(q,true) else if tk s q 0 hi=true then(q+1,false) else(q,true)
def GX(r f k:Nat):Nat:=if k=114 then r-1 else if k=102 then f-1 else if k=115 then 8 else if k=45 then 0 else 255
def tb(s:ByteArray)(l q:Nat):Bool:=decide (q+1<s.size/\l<256*bt s q+bt s (q+1))
def vJ(s:ByteArray)(r f l m i k q:Nat)(bad:Bool):Nat×Bool:=
 nx s (GX r f k) q (bad || (decide (i=2/\m=116)&&tb s l q))
def vK(s:ByteArray)(r f l m:Nat):List Nat->Nat->Nat×Bool->Nat×Bool
 | [],_,st=>st
 |k :: ks,i,st=>vK s r f l m ks (i+1) (vJ s r f l m i k st.1 st.2)
def Ff(s:ByteArray)(hi q:Nat):nx s hi q true=(q,true):=by simp[nx]
def zu{s:ByteArray}{hi q:Nat}{bad:Bool}(h:q<=s.size):q<=(nx s hi q bad).1/\(nx s hi q bad).1<=s.size:=by
 unfold nx;split
 .omega
 split
 .rename_i e;have:=gZ e;omega
 omega
theorem Cc(s:ByteArray)(r f l m i k q:Nat):vJ s r f l m i k q true=(q,true):=by simp[vJ,Ff]
theorem Gw(s:ByteArray)(r f l m:Nat)(e:List Nat):∀i q,vK s r f l m e i (q,true)=(q,true):=by
 induction e with
 |nil=>intro i q;rfl
 |cons k e o=>grind[vK,Cc,M.vK.eq_def]
def Iw:∀e,e<23->(k1 e=116->k2 e=116)/\(k0 e=114\/k0 e=102\/k0 e=115\/k0 e=107\/k0 e=45)/\(k1 e≠116->(k1 e=114\/k1 e=102\/k1 e=115\/k1 e=107\/k1 e=45)/\(k2 e=114\/k2 e=102\/k2 e=115\/k2 e=107\/k2 e=45)):=by decide
theorem FU(r f k:Nat)(h:k=114\/k=102\/k=115\/k=107\/k=45):GX r f k=lG r f k:=by
 (repeat' rcases h with rfl|h)<;>rfl
theorem BX(r f:Nat):GX r f 116=255:=rfl
theorem Ei(s:ByteArray)(q:Nat):tk s q 0 255=decide (q<s.size):=by
 have:=Gu s q;unfold tk;grind
theorem Gv(s:ByteArray)(p op r f l:Nat)(h:op<23):vK s r f l (k1 op) (kd.getD op []) 1 (p,false)=((uX s p op r f l).1,!(uX s p op r f l).2):=by
 let⟨h1,h2,h3⟩:=vm op h;let⟨m1,m2,m3⟩:=Iw op h;rw[h1];simp only[vK];unfold uX;have Y:vJ s r f l (k1 op) 1 (k0 op) p false=nx s (lG r f<|k0 op) p false:=by
  unfold vJ;rw[FU _ _ _ m2];simp
 by_cases o:tk s p 0 (lG r f<|k0 op)=true
 .have p1:=(gZ o).1;have i:vJ s r f l (k1 op) 1 (k0 op) p false=(p+1,false):=by rw[Y];simp[nx,o]
  rw[if_pos o,i];by_cases ht:k1 op=116
  .rw[if_pos ht];have W:vJ s r f l (k1 op) (1+1) (k1 op) (p+1) false=nx s 255 (p+1) (tb s l<|p+1):=by
    unfold vJ;rw[ht,BX];simp
   have y:∀q bad,vJ s r f l (k1 op) (1+1+1) (k2 op) q bad=nx s 255 q bad:=by
    intro q bad;unfold vJ;rw[m1 ht,BX];simp
   simp only[W,y];unfold xw;by_cases c1:s.size<p+1+2
   .rw[if_pos c1];grind[tb,nx,Ei]
   rw[if_neg c1];by_cases H:l<256*bt s (p+1)+bt s (p+1+1)
   .have J:tb s l (p+1)=true:=by unfold tb;simp;omega
    rw[if_pos H,J];simp[nx]
   have e:tb s l (p+1)=false:=by unfold tb;simp;omega
   rw[if_neg H,e];grind[nx,Ei]
  let⟨m4,m5⟩:=m3 ht;rw[if_neg ht];grind[vJ,k1,nx,lG,FU,k2,tk]
 have i:vJ s r f l (k1 op) 1 (k0 op) p false=(p,true):=by rw[Y];simp[nx,o]
 rw[if_neg o,i];simp[Cc]
end M
section
theorem Hy(v:Value)(a:Option Addr)(n c:Nat)(Z:∃u y o,v=.slice u y o)(w:aa):Calls prog 138 #[.agg #[v,.slice a n c]] w λe w'=>e=.returned (.bool (decide (n≠0)))/\w.grownBy w' none:=by
 obtain⟨u,y,o,rfl⟩:=Z;by_cases hn:n=0
 .have Y:=bj hn;rw[show decide (n≠0)=false by grind];clear hn;go_in;go_wp2_with fail
  have W:=bl w<|.cells #[.slice u y o,.slice a n c] 141;have H:=bj<|aj w (.cells #[.slice u y o,.slice a n c] 141) none;generalize J:w.alloc (.cells #[.slice u y o,.slice a n c] 141)=w1 at*;clear J;have G:w1.cell? ⟨w.heap.size,1,none⟩=some (.slice a n c):=fj W
  have i:=gS (fp w) 1 n c a w1 G;rw[show decide (n=0)=true by simpa using Y.out]at i;refine i.mono ?_;rintro e w2 ⟨rfl,rfl⟩;go_wp2_with fail
  go_ret;exact⟨rfl,H⟩
 have Y:=bj hn;rw[show decide (n≠0)=true by grind];clear hn;go_in;go_wp2_with fail
 have W:=bl w<|.cells #[.slice u y o,.slice a n c] 141;have H:=bj<|aj w (.cells #[.slice u y o,.slice a n c] 141) none;generalize J:w.alloc (.cells #[.slice u y o,.slice a n c] 141)=w1 at*;clear J;have G:w1.cell? ⟨w.heap.size,1,none⟩=some (.slice a n c):=fj W
 have i:=gS (fp w) 1 n c a w1 G;rw[show decide (n=0)=false by simpa using Y.out]at i;refine i.mono ?_;rintro e w2 ⟨rfl,rfl⟩;go_wp2_with fail
 go_ret;exact⟨rfl,H⟩
def vQ(w:aa)(eb:Nat)(L:Nat->Nat):Prop:=eb<w.heap.size/\∀j,j<4->(∃a n c,w.cell? ⟨eb,34+j*2,none⟩=some (.slice a n c))/\∃a c,w.cell? ⟨eb,34+j*2+1,none⟩=some (.slice a (L j) c)
def vQ.kept{w w':aa}{eb:Nat}{L:Nat->Nat}(h:vQ w eb L)(i:w.grownBy w' none):vQ w' eb L:=⟨dm h.1 i.size,λj u=>by
 let⟨⟨a,n,c,e⟩,G,y,o⟩:=h.2 j u;exact⟨⟨a,n,c,(ay i (a:=az eb<|34+j*2) h.1).1.trans e⟩,G,y,(ay i (a:=az eb<|34+j*2+1) h.1).1.trans o⟩⟩
theorem FT(eb:Nat)(L:Nat->Nat)(w:aa)(h:vQ w eb L):Calls prog 191 #[.slice (some<|az eb 34) 4 4,Fv 138 #[]] w λe w'=>(∃x:Int,e=.returned (ah x)/\(0<=x↔∃k,k<4/\L k≠0))/\w.grownBy w' none:=by
 have HS:=bj h;go_in;go_wp2_with fail
 go_loopw[8] (λi wr=>∃j:Nat,i=ah j/\j<=4/\Hid (∀k,k<j->L k=0)/\Hid (w.grownBy wr none)) (λi _=>4-(intOf i).toNat)
 case atStart=>exact⟨0,rfl,af,(λk hk=>by omega),aw _ _⟩
 case round=>
  obtain⟨j,rfl,hj,rL,Y⟩:=hrel;have hS:=HS.out.kept Y.out;by_cases W:j<4
  .obtain⟨⟨a1,n1,c1,e1⟩,a2,c2,H⟩:=hS.2 j W;have J:(j:Int)<4:=af
   have o:=bj<|Hy (.slice a1 n1 c1) a2 (L j) c2 ⟨_,_,_,rfl⟩ wr;by_cases G:L j=0
   .have Z:=bj G;rw[show decide (L j≠0)=false by grind]at o;clear G;go_wp2_with fail
    refine dq o λw2 u=>?_;have y:=bj<|ar Y.out u;clear u e1 H o;go_wp2_with fail
    go_roundw
    case rel=>
     refine⟨j+1,eG,af,(λk hk=>?_),y⟩;by_cases e:k=j
     .rw[e];exact Z.out
     exact rL.out k af
    case measure=>simp[intOf];omega
   have Z:=bj G;rw[show decide (L j≠0)=true by grind]at o;clear G;go_wp2_with fail
   refine dq o λw2 u=>?_;have y:=bj<|ar Y.out u;clear u e1 H o;go_wp2_with fail
   go_ret;exact⟨⟨_,rfl,⟨λ_=>⟨j,W,Z.out⟩,λ_=>by omega⟩⟩,y.out⟩
  have J:¬((j:Int)<4):=af
  go_wp2_with fail
  go_ret;exact⟨⟨_,rfl,⟨λe=>dr e af,λe=>by
   obtain⟨k,k1,k2⟩:=e;exact dr (rL.out k af) k2⟩⟩,Y.out⟩
theorem wm(eb:Nat)(L:Nat->Nat)(w:aa)(h:vQ w eb L):Calls prog 139 #[.slice (some<|az eb 34) 4 4,Fv 138 #[]] w λe w'=>(∃b:Bool,e=.returned (.bool b)/\(b=true↔∃k,k<4/\L k≠0))/\w.grownBy w' none:=by
 have HS:=bj h;go_in;go_wp2_with fail
 refine(FT eb L w HS).mono ?_;rintro e w2 ⟨⟨x,rfl,hx⟩,hg2⟩;change Hid _ at hg2 hx
 cases hd:decide (0<=x)
 .have HD:=bj<|iE hd;go_wp2
  go_ret;exact⟨⟨_,rfl,⟨λe=>(by grind),λe=>dr (hx.2 e) ey⟩⟩,hg2⟩
 have HD:=bj<|iE hd;go_wp2
 go_ret;exact⟨⟨_,rfl,⟨λ_=>hx.1 HD,λ_=>by grind⟩⟩,hg2⟩
theorem G0(eb n c:Nat)(L:Nat->Nat)(a:Option Addr)(w:aa)(u:w.cell? (az eb 33)=some (.slice a n c))(h:vQ w eb L):Calls prog 71 #[P0 eb] w λe w'=>(∃b:Bool,e=.returned (.bool b)/\(b=true↔(n≠0\/∃k,k<4/\L k≠0)))/\w.grownBy w' none:=by
 have HS:=bj h;have le:=h.1;by_cases hn:n=0
 .have i:=gS eb 33 n c a w u;rw[show decide (n=0)=true by grind]at i;have o:=bj i;have G:=bj hn;go_in;go_wp2_with fail
  refine dq o ?_;rintro w1 rfl;go_wp2_with fail
  refine(wm eb L _ HS).mono ?_;rintro e w2 ⟨⟨b,rfl,W⟩,y⟩;have H:=bj y;have J:=bj W;go_wp2
  go_ret;simp_all
 have i:=gS eb 33 n c a w u;rw[show decide (n=0)=false by grind]at i;have o:=bj i;have G:=bj hn;go_in;go_wp2_with fail
 refine dq o ?_;rintro w1 rfl;go_wp2
 go_ret;exact⟨⟨_,rfl,⟨λ_=>ag G,λ_=>rfl⟩⟩,aw _ _⟩
def NB(sp:Bool)(n29 n32 n33:Nat)(L:Nat->Nat)(x:Int):Prop:=(sp=true->x=5)/\(sp=false->n29=0->x=4)/\(sp=false->n29≠0->n32≠0->x=1)/\(sp=false->n29≠0->n32=0->(n33≠0\/∃k,k<4/\L k≠0)->x=2)/\(sp=false->n29≠0->n32=0->¬(n33≠0\/∃k,k<4/\L k≠0)->x=3)
theorem Hd(eb:Nat)(sp:Bool)(L:Nat->Nat)(y a8 G a5 Z a0:Nat)(a4 a1 a6:Option Addr)(w:aa)(a9:w.cell? (az eb 42)=some (.bool sp))(a3:w.cell? (az eb 29)=some (.slice a4 y a8))(a2:w.cell? (az eb 32)=some (.slice a1 G a5))(a7:w.cell? (az eb 33)=some (.slice a6 Z a0))(h:vQ w eb L):Calls prog 42 #[P0 eb] w λe w'=>(∃x:Int,e=.returned (ah x)/\NB sp y G Z L x)/\w.grownBy w' none:=by
 have o:=wQ eb y a8 a4 w a3;have i:=gS eb 32 G a5 a1 w a2;have HW:=bj<|G0 eb Z a0 L a6 w a7 h;have le:=h.1
 cases sp
 .by_cases H:y=0
  .have W:=bj H;rw[show decide (0<y)=false by grind]at o;have J:=bj o;go_in;go_wp2_with fail
   refine dq J ?_;rintro w4 rfl;go_wp2
   go_ret;exact⟨⟨4,rfl,(λe=>by cases e),(λ_ _=>rfl),(λ_ e=>dr W e),(λ_ e=>dr W e),(λ_ e=>dr W e)⟩,aw _ _⟩
  have W:=bj H;rw[show decide (0<y)=true by grind]at o;have J:=bj o;by_cases u:G=0
  .have HQ:=bj u;rw[show decide (G=0)=true by grind]at i;have Y:=bj i;go_in;go_wp2_with fail
   refine dq J ?_;rintro w4 rfl;go_wp2_with fail
   refine dq Y ?_;rintro w5 rfl;go_wp2_with fail
   refine HW.mono ?_;rintro e w6 ⟨⟨b,rfl,hb⟩,hg⟩;have KG:=bj hg;have HB:=bj hb
   cases b
   .go_wp2
    go_ret;exact⟨⟨3,rfl,(λe=>by cases e),(λ_ e=>dr e W),(λ_ _ e=>dr HQ e),(λ_ _ _ e=>by grind),(λ_ _ _ _=>rfl)⟩,KG⟩
   go_wp2
   go_ret;exact⟨⟨2,rfl,(λe=>by cases e),(λ_ e=>dr e W),(λ_ _ e=>dr HQ e),(λ_ _ _ _=>rfl),(λ_ _ _ e=>dr (HB.1 ey) e)⟩,KG⟩
  have HQ:=bj u;rw[show decide (G=0)=false by grind]at i;have Y:=bj i;go_in;go_wp2_with fail
  refine dq J ?_;rintro w4 rfl;go_wp2_with fail
  refine dq Y ?_;rintro w5 rfl;go_wp2
  go_ret;exact⟨⟨1,rfl,(λe=>by cases e),(λ_ e=>dr e W),(λ_ _ _=>rfl),(λ_ _ e=>dr e HQ),(λ_ _ e=>dr e HQ)⟩,aw _ _⟩
 go_in;go_wp2
 go_ret;exact⟨⟨5,rfl,(λ_=>rfl),(λe=>by cases e),(λe=>by cases e),(λe=>by cases e),(λe=>by cases e)⟩,aw _ _⟩
