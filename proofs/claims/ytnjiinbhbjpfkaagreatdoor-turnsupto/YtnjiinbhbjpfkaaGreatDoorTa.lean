import Derived.Test.YtnjiinbhbjpfkaaGreatDoorTP
set_option maxRecDepth 100000
set_option maxHeartbeats 0
set_option linter.all false
namespace Go.Proofs.YtnjiinbhbjpfkaaGreatDoor
open Go.RowKit Go.Proofs.Tryz
section
def og.below{w w':aa}(h:og w)(i:Below w.heap.size w w'):og w':=
 ⟨dm h.1 i.size,λe o=>(i.cell (p:=ay 0 e) h.1).trans (h.2 e o)⟩
def Tryz.ET:(prog.info? 228).map (λi=>(i.zero,i.size,i.bytes))=some (some (.agg #[dy 0,aj 0,.slice none 0 0]),3,40):=by kernel_rfl
theorem xB(n eb:Nat)(hn:1<=n)(a1:n<=200)(w:aa):Calls prog 58 #[aj n,.func (.func 59) #[P0 eb] #[]] w λe w'=>∃sb pb,e=.returned (P0 sb)/\w.grownBy w' none/\w.heap.size<=sb/\w.heap.size<=pb/\kD w' sb pb eb n B.G0 BJ (λ_=>[]):=by
 obtain⟨i0,hi,W,H,G⟩:=info_parts Tryz.ET;go_in;go_wp2_with (at_make;go_loud (refine wpList_make_full _ rfl _ _ 204 rfl 0 228 i0 _ 3 underlying204 hi W H _ _ _ _ n rfl rfl rfl rfl eR pY (dk _) ?_))
 intro J i o;have u:Full J w.heap.size 228 (n*3) (n*3) (jI (λ_=>false) (λ_=>0) (λ_=>[])):=by
  rcases i.2 with⟨h,_⟩|⟨g',a0,y,h1,h2,h3,h4,h5,h6,h7⟩
  .cases h
  cases h1;refine⟨y,h3,h6,λj Z=>?_⟩;have Y:=congrArg (λl=>l[j]?) h7;have e2:(madeCells #[dy 0,aj 0,.slice none 0 0] (n*3)).toList[j]? = some (jI (λ_=>false) (λ_=>0) (λ_=>[]) j):=by
   simp only[madeCells,Array.getElem?_toList,Array.getElem?_map,Array.getElem?_range];rw[bf Z];have:j % 3=0\/j % 3=1\/j % 3=2:=by omega
   rcases this with h|h|h<;>simp[h,jI,vz,qo]
  simp only[e2,dO]at Y;rw[bf Z]at Y;simpa using Y
 have HF:=bj u;have HG:=bj o;go_wp2
 go_ret;refine⟨J.heap.size,w.heap.size,rfl,ax HG _,HG.size,bq _,⟨(bl J (.cells #[dA w.heap.size n n,.func (.func 59) #[P0 eb] #[],.pointer none,aj 0,aj 0,aj 0] 207)).trans (by simp[zE,B.G0,wrap64]),⟨HF.block (av _ _ _ HF.lt),λp _ _ h=>(by cases h),λp q _ _ _ _ h=>(by cases h),λp h=>(by cases h)⟩,λc h=>(by cases h)⟩⟩
def zm(fs:Value)(q wk t:Int)(b:Nat):Array Value:=#[fs,.int .i64 q,.int .i64 wk,.int .i64 t,Fv 163 #[P0 (b+2)],Fv 163 #[P0 (b+4)],Fv 151 #[P0 (b+5)],Fv 151 #[P0 (b+6)],Fv 151 #[P0 (b+7)],Fv 151 #[P0 (b+8)],Fv 163 #[P0 (b+10)],Fv 163 #[P0 (b+12)],Fv 163 #[P0 (b+14)],Fv 163 #[P0 (b+16)],Fv 101 #[],Fv 102 #[],Fv 163 #[P0 (b+18)],Fv 104 #[],Fv 163 #[P0 (b+19)],Fv 108 #[],Fv 163 #[P0 (b+20)],Fv 167 #[P0 (b+21),P0 (b+22)],Fv 167 #[P0 (b+23),P0 (b+24)],Fv 167 #[P0 (b+25),P0 (b+26)],Fv 167 #[P0 (b+27),P0 (b+28)],Fv 167 #[P0 (b+29),P0 (b+30)],Fv 163 #[P0 (b+32)],.pointer none,.int .i64 0,.slice none 0 0,.slice none 0 0,.slice none 0 0,.slice none 0 0,.slice none 0 0,.slice none 0 0,.slice none 0 0,.slice none 0 0,.slice none 0 0,.slice none 0 0,.slice none 0 0,.slice none 0 0,.slice none 0 0,.bool false,.slice none 0 0]
def CR(fs:Value)(q wk t:Int)(b:Nat):Nat->Value:=λj=>(zm fs q wk t b).getD j undef
theorem CQ{w:aa}{eb:Nat}{e:Value}{q wk t:Int}{b:Nat}(h:w.heap[eb]? = some (.cells (zm e q wk t b) 144 (0,0))):Full w eb 144 44 44 (CR e q wk t b):=by
 refine⟨_,h,rfl,λj i=>?_⟩;simp_all[zm,CR,Array.getD_eq_getD_getElem?,Array.getElem?_eq_getElem]
def MC(s:ByteArray)(w w':aa)(e:Ending)(r:Nat×Bool):Prop:=∃(ad:Option Addr) (n c:Nat),e=.returned (.tuple #[.slice ad n c,.int .i64 (if r.2=true then 0 else(r.1:Int)),.bool r.2]) /\
 (r.2=true->n=M.bt s 0/\c=n/\1<=n/\n<=8/\∃g,ad=some ⟨g,0,none⟩/\tT w' s w.heap.size g n n)
theorem D9(s:ByteArray)(w:aa)(H:s.size<=maxLen)(o:og w): Calls prog 37 #[.string s] w λe w'=>MC s w w' e (M.m9 s)/\Below w.heap.size w w':=by
 have hn:w.heap.size≠0:=gp o.1;have HS:Hid (s.size<=maxLen):=H;have i:Hid (og w):=o;go_in;go_wp2_with fail
 refine(yx w.heap.size s 0 0 0 (w.alloc (.cells #[.string s,aj 0,aj 0,aj 0,aj 0] 128)) (bl w _) HS hn (i.alloc _)).mono ?_;rintro e w1 ⟨⟨ad,n,c,rfl,y⟩,f',r',l',J,u⟩;have Z:Hid ((M.m9 s).2=true->n=M.bt s 0/\c=n/\1<=n/\n<=8/\∃g,ad=some (ay g 0)/\tT w1 s w.heap.size g n n):=λh=>by
  obtain⟨a1,a2,Y,a4,g,a5,a6,a7⟩:=y h;exact⟨a1,a2,Y,a4,g,a5,by have:=a6;simp at this;omega,a7⟩
 clear y;have G:=uY u;obtain⟨x0,x1,_,_,_⟩:=fA J;generalize hR:M.m9 s=R at *;have W:=bj hR;obtain⟨P,ok⟩:=R
 cases ok
 .go_wp2
  go_quiet (fail)
  go_wp2
  go_ret3
  exact⟨by rw[W.out];exact⟨_,_,_,rfl,λh=>by cases h⟩,below_drewN G _⟩
 go_wp2
 go_ret3
 exact⟨by rw[W.out];exact⟨_,_,_,rfl,λ_=>Z trivial⟩,G⟩
def vm(n m:Int):Bool:=decide (1<=n/\n<=m)
theorem iL(n m:Int)(w:aa):Calls prog 55 #[.int .i64 n,.int .i64 m] w λe w'=>e=.returned (.bool (vm n m))/\w'=w:=by
 by_cases u:1<=n
 .by_cases o:n<=m
  .have e:vm n m=true:=by simp[vm];omega
   rw[e]
   go_in;go_wp2
   go_ret;exact⟨rfl,rfl⟩
  have e:vm n m=false:=by simp[vm];omega
  rw[e]
  go_in;go_wp2
  go_ret;exact⟨rfl,rfl⟩
 have e:vm n m=false:=by simp[vm];omega
 rw[e]
 go_in;go_wp2
 go_ret;exact⟨rfl,rfl⟩
def uA(c0 c1 c2 c3:Int):Bool:=vm c0 200 && (vm c1 50 && (vm c2 50 && vm c3 16))
theorem Cs(c0 c1 u y:Int)(w:aa):Calls prog 36 #[.agg #[.int .i64 c0,.int .i64 c1,.int .i64 u,.int .i64 y]] w λe w'=>e=.returned (.bool (uA c0 c1 u y))/\Below w.heap.size w w':=by
 unfold uA
 cases h0:vm c0 200
 .have i:=bj h0;go_in;go_wp2_with fail
  refine(iL _ _ _).mono ?_;rintro e w1 ⟨rfl,rfl⟩;rw[i.out];go_wp2_with fail
  go_ret;exact⟨rfl,(fQ _ _).alloc (bq _) _⟩
 cases h1:vm c1 50
 .have i:=bj h0;have o:=bj h1;go_in;go_wp2_with fail
  refine(iL _ _ _).mono ?_;rintro e w1 ⟨rfl,rfl⟩;rw[i.out];go_wp2_with fail
  refine(iL _ _ _).mono ?_;rintro e w1 ⟨rfl,rfl⟩;rw[o.out];go_wp2_with fail
  go_ret;exact⟨rfl,(fQ _ _).alloc (bq _) _⟩
 cases h2:vm u 50
 .have i:=bj h0;have o:=bj h1;have G:=bj h2;go_in;go_wp2_with fail
  refine(iL _ _ _).mono ?_;rintro e w1 ⟨rfl,rfl⟩;rw[i.out];go_wp2_with fail
  refine(iL _ _ _).mono ?_;rintro e w1 ⟨rfl,rfl⟩;rw[o.out];go_wp2_with fail
  refine(iL _ _ _).mono ?_;rintro e w1 ⟨rfl,rfl⟩;rw[G.out];go_wp2_with fail
  go_ret;exact⟨rfl,(fQ _ _).alloc (bq _) _⟩
 have i:=bj h0;have o:=bj h1;have G:=bj h2;generalize H:vm y 16=x;have J:Hid (vm y 16=x):=H;go_in;go_wp2_with fail
 refine(iL _ _ _).mono ?_;rintro e w1 ⟨rfl,rfl⟩;rw[i.out];go_wp2_with fail
 refine(iL _ _ _).mono ?_;rintro e w1 ⟨rfl,rfl⟩;rw[o.out];go_wp2_with fail
 refine(iL _ _ _).mono ?_;rintro e w1 ⟨rfl,rfl⟩;rw[G.out];go_wp2_with fail
 refine(iL _ _ _).mono ?_;rintro e w1 ⟨rfl,rfl⟩;rw[J.out];go_wp2_with fail
 go_ret;exact⟨eB,(fQ _ _).alloc (bq _) _⟩
def told(s:ByteArray)(c0 c1 c2 c3:Int):Int×Int×Bool:=
 if uA c0 c1 c2 c3=true then(if(M.m9 s).2=true then(0,0,true) else(2,((M.m9 s).1:Int),false)) else(1,0,false)
def Bx(w:aa)(mb eb:Nat):Prop:=∃x,w.heap[mb]? = some (.cells #[.int .i32 0,x,P0 eb] 105 (0,0))
theorem vS(s:ByteArray)(c0 c1 Z c3:Int)(w:aa)(hs:s.size<=maxLen)(hT:og w)(R:Nat->aa->Prop)(H:uA c0 c1 Z c3=true->(M.m9 s).2=true->∀(w1 w2:aa) (g cl:Nat),c0=(cl:Int)->w.heap.size+2<=w1.heap.size->Below w.heap.size w w2->w1.heap.size<=w2.heap.size->tT w2 s w1.heap.size g (M.bt s 0) (M.bt s 0)->Calls prog 38 #[dA g (M.bt s 0) (M.bt s 0),.agg #[aj cl,aj c1,aj Z,aj c3]] w2 λe w'=>∃eb,e=.returned (P0 eb)/\Below w2.heap.size w2 w'/\R eb w'): Calls prog 23 #[.string s,.agg #[aj c0,aj c1,aj Z,aj c3]] w λe w'=>Below w.heap.size w w'/\((∃x y:Int,e=.returned (.tuple #[.pointer none,.agg #[aj x,aj y]])/\¬(uA c0 c1 Z c3=true/\(M.m9 s).2=true)/\told s c0 c1 Z c3=(x,y,false))\/(∃(mb eb:Nat) (G:aa),e=.returned (.tuple #[P0 mb,.agg #[aj 0,aj 0]])/\R eb G/\w.heap.size+2<=mb/\mb=G.heap.size/\Bx w' mb eb/\∀k,k<G.heap.size->k≠w.heap.size+1->w'.heap[k]? = G.heap[k]?)):=by
 have HS:Hid (s.size<=maxLen):=hs;have aB:Hid (og w):=hT;have HH:=bj H;clear hs hT H;go_in;go_wp2_with fail
 refine du (Cs _ _ _ _ _) λw1 hB=>?_;obtain⟨hc,hf⟩:=ta hB;have hz:=hB.size;simp at hz;have a1:=(((fQ _ _).alloc (bq _) _).alloc eB _).trans (hB.mono fH);have J:=bj a1;clear hB a1
 cases hok:uA c0 c1 Z c3
 .have u:=bj hok;clear hok;go_wp2_with fail
  refine dg (v:=.tuple #[.pointer none,.agg #[aj 1,aj 0]]) (by simp[results,results23,go_sem, *]) rfl ⟨?_,af ⟨1,0,rfl,(λh=>by rw[u.out]at h;cases h.1),by unfold told;rw[au (by rw[u.out];simp)]⟩⟩;repeat (refine Below.setCell ?_ eB _)
  exact J.out
 have u:=bj hok;clear hok;go_wp2_with fail
 refine(D9 s _ HS.out (aB.out.below J.out)).mono ?_;rintro e w2 ⟨⟨ad,n,c,rfl,hA⟩,W⟩;have HA:=bj hA;clear hA;have a3:=W.size;have l0:w.heap.size<w1.heap.size:=ag
 have l1:w.heap.size+1<w1.heap.size:=ag
 obtain⟨i,a0⟩:=ta W;have d0:w2.cell? (ay (w.heap.size+1) 0)=some (aj 0):=by rw[i _ _ l1,hc _ _ eB];simp
 have d1:w2.cell? (ay (w.heap.size+1) 1)=some (aj 0):=by rw[i _ _ l1,hc _ _ eB];simp
 have e0:w2.frozen? (ay (w.heap.size+1) 0)=false:=by rw[a0 _ _ l1,hf _ _ eB];simp
 have e1:w2.frozen? (ay (w.heap.size+1) 1)=false:=by rw[a0 _ _ l1,hf _ _ eB];simp
 have g0:w2.cell? (ay w.heap.size 0)=some (aj c0):=by rw[i _ _ l0,hc _ _ fH];simp
 have g1:w2.cell? (ay w.heap.size 1)=some (aj c1):=by rw[i _ _ l0,hc _ _ fH];simp
 have g2:w2.cell? (ay w.heap.size 2)=some (aj Z):=by rw[i _ _ l0,hc _ _ fH];simp
 have g3:w2.cell? (ay w.heap.size 3)=some (aj c3):=by rw[i _ _ l0,hc _ _ fH];simp
 have l2:w.heap.size+1<w2.heap.size:=ag
 have Y:=bj (J.out.trans (W.mono J.out.size));have aA:Hid (w.heap.size+2<=w1.heap.size):=hz;have a9:Hid (w1.heap.size<=w2.heap.size):=a3;clear W J hc hf i a0 hz a3 l0 l1;generalize hR:M.m9 s=R at *;have HR:=bj hR;clear hR;obtain⟨P,ok⟩:=R
 cases ok
 .go_wp2_with fail
  refine dg (v:=.tuple #[.pointer none,.agg #[aj 2,aj P]]) (by simp[results,results23,go_sem,d0,d1]) rfl ⟨?_,af ⟨2,P,rfl,(λh=>by have h2:=h.2;rw[HR.out]at h2;cases h2),by unfold told;rw[bf u.out,HR.out];rfl⟩⟩;repeat (refine Below.setCell ?_ eB _)
  exact Y.out
 obtain⟨aD,aE,a8,aF,g,a5,a2⟩:=HA.out rfl;subst aE a5;have a7:Hid (tT w2 s w1.heap.size g c c):=a2;subst aD;clear HA a2 a8 aF;have aH:1<=c0/\c0<=200:=by have:=u.out;simp[uA,vm]at this;omega
 obtain⟨cl,rfl⟩:∃cl:Nat,c0=(cl:Int):=⟨c0.toNat,ag⟩;go_wp2_with fail
 refine(HH.out u.out (by first|rfl|trivial) w1 w2 g cl rfl aA.out Y.out a9.out a7.out).mono ?_;rintro e G ⟨eb,rfl,o,a4⟩;have aG:=bj a4;clear a4;have aJ:=o.size;have aC:Hid (Below w.heap.size w G):=Y.out.trans (o.mono ag);rw[<-o.cell (p:=ay (w.heap.size+1) 0) l2]at d0;rw[<-o.cell (p:=ay (w.heap.size+1) 1) l2]at d1;rw[<-o.frozen (p:=ay (w.heap.size+1) 0) l2]at e0;rw[<-o.frozen (p:=ay (w.heap.size+1) 1) l2]at e1;have l4:w.heap.size+1<G.heap.size:=ag
 clear o g0 g1 g2 g3 Y;go_wp2_with fail
 refine dg (v:=.tuple #[.pointer (some (ay G.heap.size 0)),.agg #[aj 0,aj 0]]) (by simp[results,results23,go_sem,d0,d1,l4]) rfl ⟨?_,ah ⟨G.heap.size,eb,G,rfl,aG.out,ag,rfl,⟨.int .u32 0,?_⟩,λk hk aI=>?_⟩⟩
 .repeat (first|exact aC.out|refine Below.setCell ?_ eB _|refine Below.alloc ?_ (by simp[World.setCell];omega) _)
 .have h1:=bl ((G.setCell (ay (w.heap.size+1) 0) (aj 0)).setCell (ay (w.heap.size+1) 1) (aj 0)) (.cells #[.int .i32 0,.int .u32 0,P0 eb] 105);simpa[World.setCell] using h1
 have a6:((G.setCell (ay (w.heap.size+1) 0) (aj 0)).setCell (ay (w.heap.size+1) 1) (aj 0)).heap.size=G.heap.size:=by simp[World.setCell]
 rw[av _ _ _ (kr a6),ab _ _ _ _ (by show k≠w.heap.size+1;omega),ab _ _ _ _ (by show k≠w.heap.size+1;omega)]
