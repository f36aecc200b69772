import Derived.Test.YtnjiinbhbjpfkaaGreatDoorAb
import Derived.Test.YtnjiinbhbjpfkaaGreatDoorAL
set_option maxRecDepth 100000
set_option maxHeartbeats 0
set_option linter.all false
namespace Go.Proofs.YtnjiinbhbjpfkaaGreatDoor
open Go.RowKit Go.Proofs.Tryz
section
def NC(s:ByteArray)(w w':aa)(e:Ending)(r:Nat×Bool):Prop:=∃(ad:Option Addr) (n c:Nat),e=.returned (.tuple #[.slice ad n c,.int .i64 (if r.2=true then 0 else(r.1:Int)),.bool r.2]) /\
 (r.2=true->n=M.bt s 0/\c=n/\1<=n/\n<=8/\∃g,ad=some ⟨g,0,none⟩/\uy w' s w.heap.size g n n)
theorem ER(s:ByteArray)(w:aa)(H:s.size<=maxLen)(o:pf w):Calls prog 37 #[.string s] w λe w'=>NC s w w' e (M.nK s)/\Below w.heap.size w w':=by
 have hn:w.heap.size≠0:=gD o.1
 have HS:=bj H;have i:=bj o;go_in;go_wp2_with fail
 refine(zh w.heap.size s 0 0 0 (gG w #[.string s,ah 0,ah 0,ah 0,ah 0] 128) (bl w _) HS hn<|i.alloc _).mono ?_;rintro e w1 ⟨⟨ad,n,c,rfl,y⟩,f',r',l',J,u⟩;have Z:Hid ((M.nK s).2=true->n=M.bt s 0/\c=n/\1<=n/\n<=8/\∃g,ad=some (az g 0)/\uy w1 s w.heap.size g n n):=λh=>by
  let⟨a1,a2,Y,a4,g,a5,a6,a7⟩:=y h;exact⟨a1,a2,Y,a4,g,a5,by have:=a6;simp at this;omega,a7⟩
 clear y;have G:=vM u;let⟨x0,x1,_,_,_⟩:=fF J;generalize hR:M.nK s=R at*;have W:=bj hR;obtain⟨P,ok⟩:=R
 cases ok
 .go_wp2
  go_quiet (fail)
  go_wp2
  go_ret3
  exact⟨by rw[W.out];exact⟨_,_,_,rfl,λh=>by cases h⟩,below_drewN G _⟩
 go_wp2
 go_ret3
 exact⟨by rw[W.out];exact⟨_,_,_,rfl,λ_=>Z trivial⟩,G⟩
def wj(n m:Int):Bool:=decide (1<=n/\n<=m)
theorem iS(n m:Int)(w:aa):Calls prog 55 #[.int .i64 n,.int .i64 m] w λe w'=>e=.returned (.bool<|wj n m)/\w'=w:=by
 by_cases u:1<=n
 .by_cases o:n<=m
  .have e:wj n m=true:=by simp[wj];omega
   rw[e]
   go_in;go_wp2
   go_ret;simp_all
  have e:wj n m=false:=by simp[wj];omega
  rw[e]
  go_in;go_wp2
  go_ret;simp_all
 have e:wj n m=false:=by simp[wj];omega
 rw[e]
 go_in;go_wp2
 go_ret;simp_all
def uZ(c0 c1 c2 c3:Int):Bool:=wj c0 200&&(wj c1 50&&(wj c2 50&&wj c3 16))
theorem C6(c0 c1 u y:Int)(w:aa):Calls prog 36 #[.agg #[.int .i64 c0,.int .i64 c1,.int .i64 u,.int .i64 y]] w λe w'=>e=.returned (.bool<|uZ c0 c1 u y)/\Below w.heap.size w w':=by
 unfold uZ
 cases h0:wj c0 200
 .have i:=bj h0;go_in;go_wp2_with fail
  refine(iS _ _ _).mono ?_;rintro e w1 ⟨rfl,rfl⟩;rw[i.out];go_wp2_with fail
  go_ret;exact⟨rfl,(fS _ _).alloc (bm _) _⟩
 cases h1:wj c1 50
 .have i:=bj h0;have o:=bj h1;go_in;go_wp2_with fail
  refine(iS _ _ _).mono ?_;rintro e w1 ⟨rfl,rfl⟩;rw[i.out];go_wp2_with fail
  refine(iS _ _ _).mono ?_;rintro e w1 ⟨rfl,rfl⟩;rw[o.out];go_wp2_with fail
  go_ret;exact⟨rfl,(fS _ _).alloc (bm _) _⟩
 cases h2:wj u 50
 .have i:=bj h0;have o:=bj h1;have G:=bj h2;go_in;go_wp2_with fail
  refine(iS _ _ _).mono ?_;rintro e w1 ⟨rfl,rfl⟩;rw[i.out];go_wp2_with fail
  refine(iS _ _ _).mono ?_;rintro e w1 ⟨rfl,rfl⟩;rw[o.out];go_wp2_with fail
  refine(iS _ _ _).mono ?_;rintro e w1 ⟨rfl,rfl⟩;rw[G.out];go_wp2_with fail
  go_ret;exact⟨rfl,(fS _ _).alloc (bm _) _⟩
 have i:=bj h0;have o:=bj h1;have G:=bj h2;generalize H:wj y 16=x;have J:=bj H;go_in;go_wp2_with fail
 refine(iS _ _ _).mono ?_;rintro e w1 ⟨rfl,rfl⟩;rw[i.out];go_wp2_with fail
 refine(iS _ _ _).mono ?_;rintro e w1 ⟨rfl,rfl⟩;rw[o.out];go_wp2_with fail
 refine(iS _ _ _).mono ?_;rintro e w1 ⟨rfl,rfl⟩;rw[G.out];go_wp2_with fail
 refine(iS _ _ _).mono ?_;rintro e w1 ⟨rfl,rfl⟩;rw[J.out];go_wp2_with fail
 go_ret;exact⟨eG,(fS _ _).alloc (bm _) _⟩
def told(s:ByteArray)(c0 c1 c2 c3:Int):Int×Int×Bool:=
 if uZ c0 c1 c2 c3=true then(if(M.nK s).2=true then(0,0,true) else(2,((M.nK s).1:Int),false)) else(1,0,false)
def Bx(w:aa)(mb eb:Nat):Prop:=∃x,w.heap[mb]?=some (.cells #[.int .i32 0,x,P0 eb] 105 (0,0))
theorem wP(s:ByteArray)(c0 c1 Z c3:Int)(w:aa)(hs:s.size<=maxLen)(hT:pf w)(R:Nat->aa->Prop)(H:uZ c0 c1 Z c3=true->(M.nK s).2=true->∀(w1 w2:aa) (g cl:Nat),c0=(cl:Int)->w.heap.size+2<=w1.heap.size->Below w.heap.size w w2->w1.heap.size<=w2.heap.size->uy w2 s w1.heap.size g (M.bt s 0) (M.bt s 0)->Calls prog 38 #[dD g (M.bt s 0)<|M.bt s 0,.agg #[ah cl,ah c1,ah Z,ah c3]] w2 λe w'=>∃eb,e=.returned (P0 eb)/\Below w2.heap.size w2 w'/\R eb w'):Calls prog 23 #[.string s,.agg #[ah c0,ah c1,ah Z,ah c3]] w λe w'=>Below w.heap.size w w'/\((∃x y:Int,e=.returned (.tuple #[.pointer none,.agg #[ah x,ah y]])/\¬(uZ c0 c1 Z c3=true/\(M.nK s).2=true)/\told s c0 c1 Z c3=(x,y,false))\/(∃(mb eb:Nat) (G:aa),e=.returned (.tuple #[P0 mb,.agg #[ah 0,ah 0]])/\R eb G/\w.heap.size+2<=mb/\mb=G.heap.size/\Bx w' mb eb/\∀k,k<G.heap.size->k≠w.heap.size+1->w'.heap[k]?=G.heap[k]?)):=by
 have HS:Hid (s.size<=maxLen):=hs;have aB:Hid (pf w):=hT;have HH:=bj H;clear hs hT H;go_in;go_wp2_with fail
 refine dq (C6 _ _ _ _ _) λw1 hB=>?_;obtain⟨hc,hf⟩:=tQ hB;have hz:=hB.size;simp at hz;have a1:=(((fS _ _).alloc (bm _) _).alloc eG _).trans<|hB.mono fV;have J:=bj a1;clear hB a1
 cases hok:uZ c0 c1 Z c3
 .have u:=bj hok;clear hok;go_wp2_with fail
  refine dg (v:=.tuple #[.pointer none,.agg #[ah 1,ah 0]]) (by simp[results,results23,go_sem, *]) rfl ⟨?_,ag ⟨1,0,rfl,(λh=>by rw[u.out]at h;cases h.1),by unfold told;rw[av (by rw[u.out];simp)]⟩⟩;repeat (refine Below.setCell ?_ eG _)
  exact J.out
 have u:=bj hok;clear hok;go_wp2_with fail
 refine(ER s _ HS.out<|aB.out.below J.out).mono ?_;rintro e w2 ⟨⟨ad,n,c,rfl,hA⟩,W⟩;have HA:=bj hA;clear hA;have a3:=W.size;have l0:w.heap.size<w1.heap.size:=af
 have l1:w.heap.size+1<w1.heap.size:=af
 obtain⟨i,a0⟩:=tQ W;have d0:w2.cell? (az (w.heap.size+1) 0)=some (ah 0):=by rw[i _ _ l1,hc _ _ eG];simp
 have d1:w2.cell? (az (w.heap.size+1) 1)=some (ah 0):=by rw[i _ _ l1,hc _ _ eG];simp
 have e0:w2.frozen? (az (w.heap.size+1) 0)=false:=by rw[a0 _ _ l1,hf _ _ eG];simp
 have e1:w2.frozen? (az (w.heap.size+1) 1)=false:=by rw[a0 _ _ l1,hf _ _ eG];simp
 have g0:w2.cell? (az w.heap.size 0)=some (ah c0):=by rw[i _ _ l0,hc _ _ fV];simp
 have g1:w2.cell? (az w.heap.size 1)=some (ah c1):=by rw[i _ _ l0,hc _ _ fV];simp
 have g2:w2.cell? (az w.heap.size 2)=some (ah Z):=by rw[i _ _ l0,hc _ _ fV];simp
 have g3:w2.cell? (az w.heap.size 3)=some (ah c3):=by rw[i _ _ l0,hc _ _ fV];simp
 have l2:w.heap.size+1<w2.heap.size:=af
 have Y:=bj<|J.out.trans<|W.mono J.out.size;have aA:Hid (w.heap.size+2<=w1.heap.size):=hz;have a9:Hid (w1.heap.size<=w2.heap.size):=a3;clear W J hc hf i a0 hz a3 l0 l1;generalize hR:M.nK s=R at*;have HR:=bj hR;clear hR;obtain⟨P,ok⟩:=R
 cases ok
 .go_wp2_with fail
  refine dg (v:=.tuple #[.pointer none,.agg #[ah 2,ah P]]) (by simp[results,results23,go_sem,d0,d1]) rfl ⟨?_,ag ⟨2,P,rfl,(λh=>by have h2:=h.2;rw[HR.out]at h2;cases h2),by unfold told;rw[bf u.out,HR.out];rfl⟩⟩;repeat (refine Below.setCell ?_ eG _)
  exact Y.out
 obtain⟨aD,aE,a8,aF,g,a5,a2⟩:=HA.out rfl;subst aE a5;have a7:Hid (uy w2 s w1.heap.size g c c):=a2;subst aD;clear HA a2 a8 aF;have aH:1<=c0/\c0<=200:=by have:=u.out;simp[uZ,wj]at this;omega
 obtain⟨cl,rfl⟩:∃cl:Nat,c0=(cl:Int):=⟨c0.toNat,af⟩;go_wp2_with fail
 refine(HH.out u.out (by first|rfl|trivial) w1 w2 g cl rfl aA.out Y.out a9.out a7.out).mono ?_;rintro e G ⟨eb,rfl,o,a4⟩;have aG:=bj a4;clear a4;have aJ:=o.size;have aC:Hid (Below w.heap.size w G):=Y.out.trans<|o.mono af;rw[<-o.cell (p:=az (w.heap.size+1) 0) l2]at d0;rw[<-o.cell (p:=az (w.heap.size+1) 1) l2]at d1;rw[<-o.frozen (p:=az (w.heap.size+1) 0) l2]at e0;rw[<-o.frozen (p:=az (w.heap.size+1) 1) l2]at e1;have l4:w.heap.size+1<G.heap.size:=af
 clear o g0 g1 g2 g3 Y;go_wp2_with fail
 refine dg (v:=.tuple #[.pointer<|some<|az G.heap.size 0,.agg #[ah 0,ah 0]]) (by simp[results,results23,go_sem,d0,d1,l4]) rfl ⟨?_,ak ⟨G.heap.size,eb,G,rfl,aG.out,af,rfl,⟨.int .u32 0,?_⟩,λk hk aI=>?_⟩⟩
 .repeat (first|exact aC.out|refine Below.setCell ?_ eG _|refine Below.alloc ?_ (by simp[World.setCell];omega) _)
 .have h1:=bl ((G.setCell (az (w.heap.size+1) 0)<|ah 0).setCell (az (w.heap.size+1) 1)<|ah 0)<|.cells #[.int .i32 0,.int .u32 0,P0 eb] 105;simpa[World.setCell] using h1
 have a6:((G.setCell (az (w.heap.size+1) 0)<|ah 0).setCell (az (w.heap.size+1) 1)<|ah 0).heap.size=G.heap.size:=by simp[World.setCell]
 rw[au _ _ _<|lD a6,ab _ _ _ _ (by show k≠w.heap.size+1;omega),ab _ _ _ _ (by show k≠w.heap.size+1;omega)]
theorem Ir(s:ByteArray)(c0 c1 i o:Int)(w:aa)(h:uZ c0 c1 i o=false):dC 31 #[.string s,.agg #[ah c0,ah c1,ah i,ah o]] w (.tuple #[.pointer none,.agg #[ah 1,ah 0]]) λw'=>Below w.heap.size w w':=by
 have hX:decide (c0<1)=true\/decide (c0<1)=false/\(decide (200<c0)=true\/decide (200<c0)=false/\(decide (c1<1)=true\/decide (c1<1)=false/\(decide (50<c1)=true\/decide (50<c1)=false/\(decide (i<1)=true\/decide (i<1)=false/\(decide (50<i)=true\/decide (50<i)=false/\(decide (o<1)=true\/decide (o<1)=false/\decide (16<o)=true)))))):=by
  simp[uZ,wj]at h;simp only[decide_eq_true_eq,decide_eq_false_iff_not];omega
 clear h;rcases hX with u|⟨u,Y|⟨Y,H|⟨H,y|⟨y,G|⟨G,W|⟨W,J|⟨J,Z⟩⟩⟩⟩⟩⟩⟩
 all_goals
  delta dC;go_in;go_wp2
  refine dg (v:=.tuple #[.pointer none,.agg #[ah 1,ah 0]]) (by simp[results,results31,go_sem]) rfl ⟨rfl,?_⟩;exact((fS _ _).alloc (bm _) _).alloc eG _
theorem Iq(s:ByteArray)(c0 c1 u G:Int)(w:aa)(Z:s.size<=maxLen)(J:s.size<=140737488355328)(o:uZ c0 c1 u G=true)(hn:(M.nK s).2=false):dC 31 #[.string s,.agg #[ah c0,ah c1,ah u,ah G]] w (.tuple #[.pointer none,.agg #[ah 2,ah ((M.nK s).1:Int)]]) λw'=>Below w.heap.size w w':=by
 have HS:=bj Z;have HN:=bj hn;simp[uZ,wj]at o;have b0:decide (c0<1)=false:=fV
 have b1:decide (200<c0)=false:=fV
 have b2:decide (c1<1)=false:=fV
 have b3:decide (50<c1)=false:=fV
 have b4:decide (u<1)=false:=fV
 have b5:decide (50<u)=false:=fV
 have b6:decide (G<1)=false:=fV
 have b7:decide (16<G)=false:=fV
 delta dC;go_in;go_wp2_with fail
 refine dq (zi s _ HS J HN) λw1 y=>?_;let⟨W,Y⟩:=tQ y;have H:=bj<|(((fS _ _).alloc (bm _) _).alloc eG _).trans<|y.mono fV;have d0:w1.cell? (az (w.heap.size+1) 0)=some (ah 0):=by rw[W _ _ eG];simp[go_sem]
 have d1:w1.cell? (az (w.heap.size+1) 1)=some (ah 0):=by rw[W _ _ eG];simp[go_sem]
 generalize hP:(M.nK s).1=P at*;have HP:=bj hP;go_wp2_with fail
 refine dg (v:=.tuple #[.pointer none,.agg #[ah 2,ah P]]) (by simp[results,results31,go_sem,d0,d1]) rfl ⟨ey,?_⟩;repeat (refine Below.setCell ?_ eG _)
 exact H
theorem Dd(s:ByteArray)(c0 c1 o u:Int)(w:aa)(G:s.size<=maxLen)(y:s.size<=140737488355328)(h:uZ c0 c1 o u=false\/(M.nK s).2=false):dC 31 #[.string s,.agg #[ah c0,ah c1,ah o,ah u]] w (.tuple #[.pointer none,.agg #[ah (told s c0 c1 o u).1,ah (told s c0 c1 o u).2.1]]) λw'=>Below w.heap.size w w':=by
 unfold told;by_cases i:uZ c0 c1 o u=true
 .simp_all[bf,av,decide,Iq]
 simp_all[av,Ir]
theorem MK(n:Int)(w:aa):dC 32 #[ah n] w (ah n) λw'=>w'=w:=by
 delta dC;go_in;go_wp2
 go_ret;simp_all
theorem Fq(s:ByteArray)(c0 c1 G H:Int)(w:aa)(hs:s.size<=maxLen)(W:s.size<=140737488355328)(hT:pf w)(h:uZ c0 c1 G H=false\/(M.nK s).2=false):dC 14 #[.string s,.agg #[ah c0,ah c1,ah G,ah H]] w (.tuple #[.pointer none,.bool true]) λw'=>Below w.heap.size w w':=by
 have HS:=bj hs;have KT:=bj hT;have HH:=bj h;delta dC;go_in;go_wp2_with fail
 refine(wP s c0 c1 G H _ HS (KT.alloc _) (λ_ _=>False)<|λh1 h2=>HH.elim (λh=>dr h1 ey)<|λh=>dr h2 ey).mono ?_;rintro e w1 ⟨o,⟨x,y,rfl,_,hx⟩|⟨_,_,_,_,hF,_⟩⟩
 case inr=>grind
 let⟨u,Z⟩:=tQ o;have hz:=o.size;simp at hz;have J:=bj<|((fS _ _).alloc (bm _) _).trans<|o.mono eG;have a0:w1.cell? (az (fp w) 0)=some (ah c0):=by rw[u _ _ eG];simp[go_sem]
 have a1:w1.cell? (az (fp w) 1)=some (ah c1):=by rw[u _ _ eG];simp[go_sem]
 have a2:w1.cell? (az (fp w) 2)=some (ah G):=by rw[u _ _ eG];simp[go_sem]
 have a3:w1.cell? (az (fp w) 3)=some (ah H):=by rw[u _ _ eG];simp[go_sem]
 have HX:=bj hx;have l0:w.heap.size<w1.heap.size:=af
 go_wp2_with fail
 refine(Dd s c0 c1 G H _ HS W HH).mono ?_;rw[HX.out];rintro e w2 ⟨rfl,i⟩;let⟨u,Z⟩:=tQ i;have a4:=i.size;simp at a4;have Y:=bj<|(J.alloc af _).trans<|i.mono fV;have f0:w2.cell? (az (fp w1) 0)=some (ah x):=by rw[u _ _ eG];simp[go_sem]
 have f1:w2.cell? (az (fp w1) 1)=some (ah y):=by rw[u _ _ eG];simp[go_sem]
 have l1:w1.heap.size<w2.heap.size:=af
 go_wp2_with fail
 go_quiet ((go_at_call 32;exact Calls.quiet_of_same<|MK _ _))
 go_wp2_with fail
 go_ret2
 refine⟨rfl,?_⟩;repeat (first|exact Y|refine Below.alloc ?_ af _|refine below_drewN ?_ _)
