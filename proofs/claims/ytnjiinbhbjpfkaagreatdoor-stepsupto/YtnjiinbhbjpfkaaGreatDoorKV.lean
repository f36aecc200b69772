import Derived.Test.YtnjiinbhbjpfkaaGreatDoorKM
import Derived.Test.YtnjiinbhbjpfkaaGreatDoorKL
set_option maxRecDepth 100000
set_option maxHeartbeats 0
set_option linter.all false
namespace Go.Proofs.YtnjiinbhbjpfkaaGreatDoor
open Go.RowKit Go.Proofs.Tryz
section
theorem mB.below{w w':World}(h:mB w)(i:Below w.heap.size w w'):mB w':=
 ⟨dm h.1 i.size,λe o=>(i.cell (p:=⟨0,e,none⟩) h.1).trans (h.2 e o)⟩
theorem Tryz.Dq:(prog.info? 228).map (λi=>(i.zero,i.size,i.bytes))=some (some (.agg #[.int .u8 0,.int .i64 0,.slice none 0 0]),3,40):=by kernel_rfl
theorem vP(n eb:Nat)(hn:1<=n)(a1:n<=200)(w:World):Calls prog 58 #[.int .i64 n,.func (.func 59) #[P0 eb] #[]] w λe w'=>∃sb pb,e=.returned (P0 sb)/\w.grownBy w' none/\w.heap.size<=sb/\w.heap.size<=pb/\jm w' sb pb eb n B.EZ Ax (λ_=>[]):=by
 obtain⟨i0,hi,W,H,G⟩:=info_parts Tryz.Dq;go_in;go_wp2_with (at_make;go_loud (refine wpList_make_full _ rfl _ _ 204 rfl 0 228 i0 _ 3 underlying204 hi W H _ _ _ _ n rfl rfl rfl rfl (by rw[G];omega) (by unfold maxLen;omega) (dc _) ?_))
 intro J i o;have u:Full J w.heap.size 228 (n*3) (n*3) (iM (λ_=>false) (λ_=>0) (λ_=>[])):=by
  rcases i.2 with⟨h,_⟩|⟨g',a0,y,h1,h2,h3,h4,h5,h6,h7⟩
  .cases h
  cases h1;refine⟨y,h3,h6,λj Z=>?_⟩;have Y:=congrArg (λl=>l[j]?) h7;have e2:(madeCells #[.int .u8 0,.int .i64 0,.slice none 0 0] (n*3)).toList[j]? = some (iM (λ_=>false) (λ_=>0) (λ_=>[]) j):=by
   simp only[madeCells,Array.getElem?_toList,Array.getElem?_map,Array.getElem?_range];rw[aj Z];have:j % 3=0\/j % 3=1\/j % 3=2:=by omega
   rcases this with h|h|h<;>simp[h,iM,tZ,oL]
  simp only[e2,dh]at Y;rw[aj Z]at Y;simpa using Y
 have HF:=az u;have HG:=az o;go_wp2_with fail
 go_ret;refine⟨J.heap.size,w.heap.size,rfl,au HG.out _,HG.out.size,bj _,⟨(bf J (.cells #[.slice (some ⟨w.heap.size,0,none⟩) n n,.func (.func 59) #[P0 eb] #[],.pointer none,.int .i64 0,.int .i64 0,.int .i64 0] 207)).trans (by simp[yg,B.EZ,wrap64]),⟨HF.out.block (ak _ _ _ HF.out.lt),λp _ _ h=>(by cases h),λp q _ _ _ _ h=>(by cases h),λp h=>(by cases h)⟩,λc h=>(by cases h)⟩⟩
def xR(fs:Value)(q wk t:Int)(b:Nat):Array Value:=#[fs,.int .i64 q,.int .i64 wk,.int .i64 t,Fv 163 #[P0 (b+2)],Fv 163 #[P0 (b+4)],Fv 151 #[P0 (b+5)],Fv 151 #[P0 (b+6)],Fv 151 #[P0 (b+7)],Fv 151 #[P0 (b+8)],Fv 163 #[P0 (b+10)],Fv 163 #[P0 (b+12)],Fv 163 #[P0 (b+14)],Fv 163 #[P0 (b+16)],Fv 101 #[],Fv 102 #[],Fv 163 #[P0 (b+18)],Fv 104 #[],Fv 163 #[P0 (b+19)],Fv 108 #[],Fv 163 #[P0 (b+20)],Fv 167 #[P0 (b+21),P0 (b+22)],Fv 167 #[P0 (b+23),P0 (b+24)],Fv 167 #[P0 (b+25),P0 (b+26)],Fv 167 #[P0 (b+27),P0 (b+28)],Fv 167 #[P0 (b+29),P0 (b+30)],Fv 163 #[P0 (b+32)],.pointer none,.int .i64 0,.slice none 0 0,.slice none 0 0,.slice none 0 0,.slice none 0 0,.slice none 0 0,.slice none 0 0,.slice none 0 0,.slice none 0 0,.slice none 0 0,.slice none 0 0,.slice none 0 0,.slice none 0 0,.slice none 0 0,.bool false,.slice none 0 0]
def Bq(fs:Value)(q wk t:Int)(b:Nat):Nat->Value:=λj=>(xR fs q wk t b).getD j undef
theorem Bp{w:World}{eb:Nat}{e:Value}{q wk t:Int}{b:Nat}(h:w.heap[eb]? = some (.cells (xR e q wk t b) 144 (0,0))):Full w eb 144 44 44 (Bq e q wk t b):=by
 refine⟨_,h,rfl,λj i=>?_⟩;have o:(xR e q wk t b).size=44:=rfl;unfold Bq;rw[Array.getD_eq_getD_getElem?,Array.getElem?_eq_getElem (by omega)];rfl
def J1(s:ByteArray)(w w':World)(e:Ending)(r:Nat×Bool):Prop:=∃(ad:Option Addr) (n c:Nat),e=.returned (.tuple #[.slice ad n c,.int .i64 (if r.2=true then 0 else(r.1:Int)),.bool r.2]) /\
 (r.2=true->n=M.bt s 0/\c=n/\1<=n/\n<=8/\∃g,ad=some ⟨g,0,none⟩/\rZ w' s w.heap.size g n n)
theorem CA(s:ByteArray)(w:World)(H:s.size<=maxLen)(o:mB w): Calls prog 37 #[.string s] w λe w'=>J1 s w w' e (M.jO s)/\Below w.heap.size w w':=by
 have hn:w.heap.size≠0:=by have:=o.1;omega
 have HS:Hid (s.size<=maxLen):=H;have i:Hid (mB w):=o;go_in;go_wp2_with fail
 refine(xd w.heap.size s 0 0 0 (w.alloc (.cells #[.string s,.int .i64 0,.int .i64 0,.int .i64 0,.int .i64 0] 128)) (bf w _) HS.out hn (i.out.alloc _)).mono ?_;rintro e w1 ⟨⟨ad,n,c,rfl,y⟩,f',r',l',J,u⟩;have Z:Hid ((M.jO s).2=true->n=M.bt s 0/\c=n/\1<=n/\n<=8/\∃g,ad=some ⟨g,0,none⟩/\rZ w1 s w.heap.size g n n):=λh=>by
  obtain⟨a1,a2,Y,a4,g,a5,a6,a7⟩:=y h;exact⟨a1,a2,Y,a4,g,a5,by have:=a6;simp at this;omega,a7⟩
 clear y;have G:=tH u;obtain⟨x0,x1,_,_,_⟩:=eR J;generalize hR:M.jO s=R at *;have W:=az hR;obtain⟨P,ok⟩:=R
 cases ok
 .go_wp2_with fail
  go_quiet (fail)
  go_wp2_with fail
  go_ret3
  exact⟨by rw[W.out];exact⟨_,_,_,rfl,λh=>by cases h⟩,below_drewN G _⟩
 go_wp2_with fail
 go_ret3
 exact⟨by rw[W.out];exact⟨_,_,_,rfl,λ_=>Z.out trivial⟩,G⟩
def tR(n m:Int):Bool:=decide (1<=n/\n<=m)
theorem gD(n m:Int)(w:World):Calls prog 55 #[.int .i64 n,.int .i64 m] w λe w'=>e=.returned (.bool (tR n m))/\w'=w:=by
 by_cases u:1<=n
 .by_cases o:n<=m
  .have e:tR n m=true:=by simp[tR];omega
   rw[e]
   go_in;go_wp2
   go_ret;exact⟨rfl,rfl⟩
  have e:tR n m=false:=by simp[tR];omega
  rw[e]
  go_in;go_wp2
  go_ret;exact⟨rfl,rfl⟩
 have e:tR n m=false:=by simp[tR];omega
 rw[e]
 go_in;go_wp2
 go_ret;exact⟨rfl,rfl⟩
def qT(c0 c1 c2 c3:Int):Bool:=tR c0 200 && (tR c1 50 && (tR c2 50 && tR c3 16))
theorem A3(c0 c1 u y:Int)(w:World):Calls prog 36 #[.agg #[.int .i64 c0,.int .i64 c1,.int .i64 u,.int .i64 y]] w λe w'=>e=.returned (.bool (qT c0 c1 u y))/\Below w.heap.size w w':=by
 unfold qT
 cases h0:tR c0 200
 .have i:=az h0;go_in;go_wp2_with fail
  refine(gD _ _ _).mono ?_;rintro e w1 ⟨rfl,rfl⟩;rw[i.out];go_wp2_with fail
  go_ret;exact⟨rfl,(eM _ _).alloc (bj _) _⟩
 cases h1:tR c1 50
 .have i:=az h0;have o:=az h1;go_in;go_wp2_with fail
  refine(gD _ _ _).mono ?_;rintro e w1 ⟨rfl,rfl⟩;rw[i.out];go_wp2_with fail
  refine(gD _ _ _).mono ?_;rintro e w1 ⟨rfl,rfl⟩;rw[o.out];go_wp2_with fail
  go_ret;exact⟨rfl,(eM _ _).alloc (bj _) _⟩
 cases h2:tR u 50
 .have i:=az h0;have o:=az h1;have G:=az h2;go_in;go_wp2_with fail
  refine(gD _ _ _).mono ?_;rintro e w1 ⟨rfl,rfl⟩;rw[i.out];go_wp2_with fail
  refine(gD _ _ _).mono ?_;rintro e w1 ⟨rfl,rfl⟩;rw[o.out];go_wp2_with fail
  refine(gD _ _ _).mono ?_;rintro e w1 ⟨rfl,rfl⟩;rw[G.out];go_wp2_with fail
  go_ret;exact⟨rfl,(eM _ _).alloc (bj _) _⟩
 have i:=az h0;have o:=az h1;have G:=az h2;generalize H:tR y 16=x;have J:Hid (tR y 16=x):=H;go_in;go_wp2_with fail
 refine(gD _ _ _).mono ?_;rintro e w1 ⟨rfl,rfl⟩;rw[i.out];go_wp2_with fail
 refine(gD _ _ _).mono ?_;rintro e w1 ⟨rfl,rfl⟩;rw[o.out];go_wp2_with fail
 refine(gD _ _ _).mono ?_;rintro e w1 ⟨rfl,rfl⟩;rw[G.out];go_wp2_with fail
 refine(gD _ _ _).mono ?_;rintro e w1 ⟨rfl,rfl⟩;rw[J.out];go_wp2_with fail
 go_ret;exact⟨by simp,(eM _ _).alloc (bj _) _⟩
def told(s:ByteArray)(c0 c1 c2 c3:Int):Int×Int×Bool:=
 if qT c0 c1 c2 c3=true then(if(M.jO s).2=true then(0,0,true) else(2,((M.jO s).1:Int),false)) else(1,0,false)
def Bx(w:World)(mb eb:Nat):Prop:=∃x,w.heap[mb]? = some (.cells #[.int .i32 0,x,P0 eb] 105 (0,0))
theorem ux(s:ByteArray)(c0 c1 Z c3:Int)(w:World)(hs:s.size<=maxLen)(hT:mB w)(R:Nat->World->Prop)(H:qT c0 c1 Z c3=true->(M.jO s).2=true->∀(w1 w2:World) (g cl:Nat),c0=(cl:Int)->w.heap.size+2<=w1.heap.size->Below w.heap.size w w2->w1.heap.size<=w2.heap.size->rZ w2 s w1.heap.size g (M.bt s 0) (M.bt s 0)->Calls prog 38 #[.slice (some ⟨g,0,none⟩) (M.bt s 0) (M.bt s 0),.agg #[.int .i64 cl,.int .i64 c1,.int .i64 Z,.int .i64 c3]] w2 λe w'=>∃eb,e=.returned (P0 eb)/\Below w2.heap.size w2 w'/\R eb w'): Calls prog 23 #[.string s,.agg #[.int .i64 c0,.int .i64 c1,.int .i64 Z,.int .i64 c3]] w λe w'=>Below w.heap.size w w'/\((∃x y:Int,e=.returned (.tuple #[.pointer none,.agg #[.int .i64 x,.int .i64 y]])/\¬(qT c0 c1 Z c3=true/\(M.jO s).2=true)/\told s c0 c1 Z c3=(x,y,false))\/(∃(mb eb:Nat) (G:World),e=.returned (.tuple #[P0 mb,.agg #[.int .i64 0,.int .i64 0]])/\R eb G/\w.heap.size+2<=mb/\mb=G.heap.size/\Bx w' mb eb/\∀k,k<G.heap.size->k≠w.heap.size+1->w'.heap[k]? = G.heap[k]?)):=by
 have HS:Hid (s.size<=maxLen):=hs;have aB:Hid (mB w):=hT;have HH:=az H;clear hs hT H;go_in;go_wp2_with fail
 refine(A3 _ _ _ _ _).mono ?_;rintro e w1 ⟨rfl,hB⟩;obtain⟨hc,hf⟩:=qL hB;have hz:=hB.size;simp at hz;have a1:=(((eM _ _).alloc (bj _) _).alloc (by simp) _).trans (hB.mono (by simp;omega));have J:=az a1;clear hB a1
 cases hok:qT c0 c1 Z c3
 .have u:=az hok;clear hok;go_wp2_with fail
  refine da (v:=.tuple #[.pointer none,.agg #[.int .i64 1,.int .i64 0]]) (by simp[results,results23,go_sem, *]) rfl ⟨?_,ag ⟨1,0,rfl,(λh=>by rw[u.out]at h;cases h.1),by unfold told;rw[aa (by rw[u.out];simp)]⟩⟩;repeat (refine Below.setCell ?_ (by simp) _)
  exact J.out
 have u:=az hok;clear hok;go_wp2_with fail
 refine(CA s _ HS.out (aB.out.below J.out)).mono ?_;rintro e w2 ⟨⟨ad,n,c,rfl,hA⟩,W⟩;have HA:=az hA;clear hA;have a3:=W.size;have l0:w.heap.size<w1.heap.size:=by omega
 have l1:w.heap.size+1<w1.heap.size:=by omega
 obtain⟨i,a0⟩:=qL W;have d0:w2.cell? ⟨w.heap.size+1,0,none⟩=some (.int .i64 0):=by rw[i _ _ l1,hc _ _ (by simp)];simp
 have d1:w2.cell? ⟨w.heap.size+1,1,none⟩=some (.int .i64 0):=by rw[i _ _ l1,hc _ _ (by simp)];simp
 have e0:w2.frozen? ⟨w.heap.size+1,0,none⟩=false:=by rw[a0 _ _ l1,hf _ _ (by simp)];simp
 have e1:w2.frozen? ⟨w.heap.size+1,1,none⟩=false:=by rw[a0 _ _ l1,hf _ _ (by simp)];simp
 have g0:w2.cell? ⟨w.heap.size,0,none⟩=some (.int .i64 c0):=by rw[i _ _ l0,hc _ _ (by simp;omega)];simp
 have g1:w2.cell? ⟨w.heap.size,1,none⟩=some (.int .i64 c1):=by rw[i _ _ l0,hc _ _ (by simp;omega)];simp
 have g2:w2.cell? ⟨w.heap.size,2,none⟩=some (.int .i64 Z):=by rw[i _ _ l0,hc _ _ (by simp;omega)];simp
 have g3:w2.cell? ⟨w.heap.size,3,none⟩=some (.int .i64 c3):=by rw[i _ _ l0,hc _ _ (by simp;omega)];simp
 have l2:w.heap.size+1<w2.heap.size:=by omega
 have Y:=az (J.out.trans (W.mono J.out.size));have aA:Hid (w.heap.size+2<=w1.heap.size):=hz;have a9:Hid (w1.heap.size<=w2.heap.size):=a3;clear W J hc hf i a0 hz a3 l0 l1;generalize hR:M.jO s=R at *;have HR:=az hR;clear hR;obtain⟨P,ok⟩:=R
 cases ok
 .go_wp2_with fail
  refine da (v:=.tuple #[.pointer none,.agg #[.int .i64 2,.int .i64 P]]) (by simp[results,results23,go_sem,d0,d1]) rfl ⟨?_,ag ⟨2,P,rfl,(λh=>by have h2:=h.2;rw[HR.out]at h2;cases h2),by unfold told;rw[aj u.out,HR.out];rfl⟩⟩;repeat (refine Below.setCell ?_ (by simp) _)
  exact Y.out
 obtain⟨aD,aE,a8,aF,g,a5,a2⟩:=HA.out rfl;subst aE a5;have a7:Hid (rZ w2 s w1.heap.size g c c):=a2;subst aD;clear HA a2 a8 aF;have aH:1<=c0/\c0<=200:=by have:=u.out;simp[qT,tR]at this;omega
 obtain⟨cl,rfl⟩:∃cl:Nat,c0=(cl:Int):=⟨c0.toNat,by omega⟩;go_wp2_with fail
 refine(HH.out u.out (by first|rfl|trivial) w1 w2 g cl rfl aA.out Y.out a9.out a7.out).mono ?_;rintro e G ⟨eb,rfl,o,a4⟩;have aG:=az a4;clear a4;have aJ:=o.size;have aC:Hid (Below w.heap.size w G):=Y.out.trans (o.mono (by omega));rw[<-o.cell (p:=⟨w.heap.size+1,0,none⟩) l2]at d0;rw[<-o.cell (p:=⟨w.heap.size+1,1,none⟩) l2]at d1;rw[<-o.frozen (p:=⟨w.heap.size+1,0,none⟩) l2]at e0;rw[<-o.frozen (p:=⟨w.heap.size+1,1,none⟩) l2]at e1;have l4:w.heap.size+1<G.heap.size:=by omega
 clear o g0 g1 g2 g3 Y;go_wp2_with fail
 refine da (v:=.tuple #[.pointer (some ⟨G.heap.size,0,none⟩),.agg #[.int .i64 0,.int .i64 0]]) (by simp[results,results23,go_sem,d0,d1,l4]) rfl ⟨?_,ab ⟨G.heap.size,eb,G,rfl,aG.out,by omega,rfl,⟨.int .u32 0,?_⟩,λk hk aI=>?_⟩⟩
 .repeat (first|exact aC.out|refine Below.setCell ?_ (by simp) _|refine Below.alloc ?_ (by simp[World.setCell];omega) _)
 .have h1:=bf ((G.setCell ⟨w.heap.size+1,0,none⟩ (.int .i64 0)).setCell ⟨w.heap.size+1,1,none⟩ (.int .i64 0)) (.cells #[.int .i32 0,.int .u32 0,P0 eb] 105);simpa[World.setCell] using h1
 have a6:((G.setCell ⟨w.heap.size+1,0,none⟩ (.int .i64 0)).setCell ⟨w.heap.size+1,1,none⟩ (.int .i64 0)).heap.size=G.heap.size:=by simp[World.setCell]
 rw[ak _ _ _ (by rw[a6];omega),af _ _ _ _ (by show k≠w.heap.size+1;omega),af _ _ _ _ (by show k≠w.heap.size+1;omega)]
theorem ET(s:ByteArray)(c0 c1 i o:Int)(w:World)(h:qT c0 c1 i o=false): Calls prog 31 #[.string s,.agg #[.int .i64 c0,.int .i64 c1,.int .i64 i,.int .i64 o]] w λe w'=>e=.returned (.tuple #[.pointer none,.agg #[.int .i64 1,.int .i64 0]])/\Below w.heap.size w w':=by
 have hX:decide (c0<1)=true\/decide (c0<1)=false/\(decide (200<c0)=true\/decide (200<c0)=false/\(decide (c1<1)=true\/decide (c1<1)=false/\(decide (50<c1)=true\/decide (50<c1)=false/\(decide (i<1)=true\/decide (i<1)=false/\(decide (50<i)=true\/decide (50<i)=false/\(decide (o<1)=true\/decide (o<1)=false/\decide (16<o)=true)))))):=by
  simp[qT,tR]at h;simp only[decide_eq_true_eq,decide_eq_false_iff_not];omega
 clear h;rcases hX with u|⟨u,Y|⟨Y,H|⟨H,y|⟨y,G|⟨G,W|⟨W,J|⟨J,Z⟩⟩⟩⟩⟩⟩⟩
 all_goals
  go_in;go_wp2_with fail
  refine da (v:=.tuple #[.pointer none,.agg #[.int .i64 1,.int .i64 0]]) (by simp[results,results31,go_sem]) rfl ⟨rfl,?_⟩;exact((eM _ _).alloc (bj _) _).alloc (by simp) _
theorem ES(s:ByteArray)(c0 c1 u G:Int)(w:World)(Z:s.size<=maxLen)(J:s.size<=140737488355328)(o:qT c0 c1 u G=true)(hn:(M.jO s).2=false): Calls prog 31 #[.string s,.agg #[.int .i64 c0,.int .i64 c1,.int .i64 u,.int .i64 G]] w λe w'=>e=.returned (.tuple #[.pointer none,.agg #[.int .i64 2,.int .i64 ((M.jO s).1:Int)]])/\Below w.heap.size w w':=by
 have HS:Hid (s.size<=maxLen):=Z;have HN:Hid ((M.jO s).2=false):=hn;simp[qT,tR]at o;have b0:decide (c0<1)=false:=by simp;omega
 have b1:decide (200<c0)=false:=by simp;omega
 have b2:decide (c1<1)=false:=by simp;omega
 have b3:decide (50<c1)=false:=by simp;omega
 have b4:decide (u<1)=false:=by simp;omega
 have b5:decide (50<u)=false:=by simp;omega
 have b6:decide (G<1)=false:=by simp;omega
 have b7:decide (16<G)=false:=by simp;omega
 go_in;go_wp2_with fail
 refine(pt s _ HS.out J).mono ?_;rintro e w1 ⟨hP,y⟩;obtain⟨W,Y⟩:=qL y;have H:Hid (Below w.heap.size w w1):=(((eM _ _).alloc (bj _) _).alloc (by simp) _).trans (y.mono (by simp;omega));have d0:w1.cell? ⟨w.heap.size+1,0,none⟩=some (.int .i64 0):=by rw[W _ _ (by simp)];simp[go_sem]
 have d1:w1.cell? ⟨w.heap.size+1,1,none⟩=some (.int .i64 0):=by rw[W _ _ (by simp)];simp[go_sem]
 rcases hP with⟨_,rfl⟩|⟨i,_⟩
 .generalize hP:(M.jO s).1=P at *;have HP:Hid ((M.jO s).1=P):=hP;go_wp2_with fail
  refine da (v:=.tuple #[.pointer none,.agg #[.int .i64 2,.int .i64 P]]) (by simp[results,results31,go_sem,d0,d1]) rfl ⟨by rw[HP.out],?_⟩;repeat (refine Below.setCell ?_ (by simp) _)
  exact H.out
 rw[HN.out]at i;cases i
theorem A9(s:ByteArray)(c0 c1 o u:Int)(w:World)(G:s.size<=maxLen)(y:s.size<=140737488355328)(h:qT c0 c1 o u=false\/(M.jO s).2=false): Calls prog 31 #[.string s,.agg #[.int .i64 c0,.int .i64 c1,.int .i64 o,.int .i64 u]] w λe w'=>e=.returned (.tuple #[.pointer none,.agg #[.int .i64 (told s c0 c1 o u).1,.int .i64 (told s c0 c1 o u).2.1]])/\Below w.heap.size w w':=by
 unfold told;by_cases i:qT c0 c1 o u=true
 .have hn:=h.resolve_left (λe=>by rw[e]at i;cases i);rw[aj i,aa (by rw[hn];decide)];exact ES s c0 c1 o u w G y i hn
 rw[aa i];exact ET s c0 c1 o u w (by simpa using i)
theorem Jh(n:Int)(w:World):Calls prog 32 #[.int .i64 n] w λe w'=>e=.returned (.int .i64 n)/\w'=w:=by
 go_in;go_wp2
 go_ret;exact⟨rfl,rfl⟩
theorem C2(s:ByteArray)(c0 c1 G H:Int)(w:World)(hs:s.size<=maxLen)(W:s.size<=140737488355328)(hT:mB w)(h:qT c0 c1 G H=false\/(M.jO s).2=false): Calls prog 14 #[.string s,.agg #[.int .i64 c0,.int .i64 c1,.int .i64 G,.int .i64 H]] w λe w'=>e=.returned (.tuple #[.pointer none,.bool true])/\Below w.heap.size w w':=by
 have HS:=az hs;have KT:Hid (mB w):=hT;have HH:=az h;go_in;go_wp2_with fail
 refine(ux s c0 c1 G H _ HS.out (KT.out.alloc _) (λ_ _=>False) (λh1 h2=>HH.out.elim (λh=>ch h1 (by rw[h];decide)) (λh=>ch h2 (by rw[h];decide)))).mono ?_;rintro e w1 ⟨o,⟨x,y,rfl,_,hx⟩|⟨_,_,_,_,hF,_⟩⟩
 case inr=>exact hF.elim
 obtain⟨u,Z⟩:=qL o;have hz:=o.size;simp at hz;have J:=az (((eM _ _).alloc (bj _) _).trans (o.mono (by simp)));have a0:w1.cell? ⟨w.heap.size,0,none⟩=some (.int .i64 c0):=by rw[u _ _ (by simp)];simp[go_sem]
 have a1:w1.cell? ⟨w.heap.size,1,none⟩=some (.int .i64 c1):=by rw[u _ _ (by simp)];simp[go_sem]
 have a2:w1.cell? ⟨w.heap.size,2,none⟩=some (.int .i64 G):=by rw[u _ _ (by simp)];simp[go_sem]
 have a3:w1.cell? ⟨w.heap.size,3,none⟩=some (.int .i64 H):=by rw[u _ _ (by simp)];simp[go_sem]
 have HX:Hid (told s c0 c1 G H=(x,y,false)):=hx;have l0:w.heap.size<w1.heap.size:=by omega
 go_wp2_with fail
 refine(A9 s c0 c1 G H _ HS.out W HH.out).mono ?_;rw[HX.out];rintro e w2 ⟨rfl,i⟩;obtain⟨u,Z⟩:=qL i;have a4:=i.size;simp at a4;have Y:Hid (Below w.heap.size w w2):=(J.out.alloc (by omega) _).trans (i.mono (by simp;omega));have f0:w2.cell? ⟨w1.heap.size,0,none⟩=some (.int .i64 x):=by rw[u _ _ (by simp)];simp[go_sem]
 have f1:w2.cell? ⟨w1.heap.size,1,none⟩=some (.int .i64 y):=by rw[u _ _ (by simp)];simp[go_sem]
 have l1:w1.heap.size<w2.heap.size:=by omega
 go_wp2_with fail
 go_quiet ((go_at_call 32;exact Calls.quiet_of_same (Jh _ _)))
 go_wp2_with fail
 go_ret2
 refine⟨rfl,?_⟩;repeat (first|exact Y.out|refine Below.alloc ?_ (by first|omega|(simp;omega)) _|refine below_drewN ?_ _)
