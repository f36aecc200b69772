import Derived.Test.YtnjiinbhbjpfkaaGreatDoorKA
import Derived.Defers
import Derived.Laws.LoneSync
set_option maxRecDepth 100000
set_option maxHeartbeats 0
set_option linter.all false
namespace Go.Proofs.YtnjiinbhbjpfkaaGreatDoor
open Go.RowKit Go.Proofs.Tryz
section
abbrev se:=Nat×Nat×Int
def kE(ev:List se):List Value:=ev.flatMap (λx=>[.int .i64 (x.1:Int),.int .i64 (x.2.1:Int),.int .i64 x.2.2])
theorem Fm(a b:List se):kE (a++b)=kE a++kE b:=by simp[kE]
theorem disable(w:World):(callFunc 122 #[]).run prog w=.ok (.value (.tuple #[])) w:=run_call_mark0 func122 (by kernel_rfl) (by kernel_rfl) (by kernel_rfl) .disable (by kernel_rfl) w
theorem enable(w:World):(callFunc 124 #[]).run prog w=.ok (.value (.tuple #[])) w:=run_call_mark0 func124 (by kernel_rfl) (by kernel_rfl) (by kernel_rfl) .enable (by kernel_rfl) w
theorem acquire(a:Addr)(w:World):(callFunc 125 #[.pointer (some a)]).run prog w=.ok (.value (.tuple #[])) w:=run_call_marked func125 (by kernel_rfl) (by kernel_rfl) (by kernel_rfl) .acquire (by kernel_rfl) a w
theorem releaseMerge(a:Addr)(w:World):(callFunc 127 #[.pointer (some a)]).run prog w=.ok (.value (.tuple #[])) w:=run_call_marked func127 (by kernel_rfl) (by kernel_rfl) (by kernel_rfl) .releaseMerge (by kernel_rfl) a w
theorem ja(a:Addr)(u:FrameMode)(w:World)(i:w.cell? a=some (.int .i32 1))(hz:w.frozen? a=false): CallsD prog 40 #[.pointer (some a)] u w λe H w'=>H=u/\(e=.returned (.tuple #[])/\w'=w.setCell a (.int .i32 0)):=by
 have J:=disable;have he:=enable;have W:=releaseMerge;have G:=run_convert_to_unsafe (P:=prog) (src:=210) (dst:=214) underlying210 underlying214 (by kernel_rfl) i;have o:=run_call_add (P:=prog) func128 (by kernel_rfl) (by kernel_rfl) (by kernel_rfl) .i32 (by kernel_rfl) (y:=-1) (s:=0) i hz (by simp[go_sem];rfl);go_enter_d func40,ntmps40
 go_wp2
 go_end0;go_wp2
 go_end0;exact⟨rfl,rfl⟩
theorem pC(b:Nat)(w:World)(u:w.cell? ⟨b,0,none⟩=some (.int .i32 0))(G:w.frozen? ⟨b,0,none⟩=false): Calls prog 39 #[P0 b] w λe w'=>e=.returned (.tuple #[])/\w'=w.setCell ⟨b,0,none⟩ (.int .i32 1):=by
 have J:=disable;have he:=enable;have W:=acquire;have o:=run_call_cas_hit (P:=prog) func123 (by kernel_rfl) (by kernel_rfl) (by kernel_rfl) .i32 (by kernel_rfl) (y:=1) u G;have i:(w.setCell ⟨b,0,none⟩ (.int .i32 1)).cell? ⟨b,0,none⟩=some (.int .i32 1):=by simp[go_sem,u]
 have H:=run_convert_to_unsafe (P:=prog) (src:=210) (dst:=214) underlying210 underlying214 (by kernel_rfl) i;go_in;go_wp2
 first|go_end0|(simp only[Exit.inBlock,Exit.then];refine da (results_none rfl _ _ _) rfl ?_)|refine da (results_none rfl _ _ _) rfl ?_
 go_wp2
 go_end0;exact⟨rfl,rfl⟩
theorem yl(mb eb o c0:Nat)(i:Option Addr)(ticks:Int)(w:World)(H:w.cell? ⟨mb,0,none⟩=some (.int .i32 0))(y:w.frozen? ⟨mb,0,none⟩=false)(W:w.cell? ⟨mb,2,none⟩=some (P0 eb))(R:Value->World->Prop)(u:Hid (Calls prog 41 #[P0 eb,.int .i64 ticks,.slice i o c0] (w.setCell ⟨mb,0,none⟩ (.int .i32 1)) λe w'=>∃ad n c,e=.returned (.slice ad n c)/\w'.cell? ⟨mb,0,none⟩=some (.int .i32 1)/\w'.frozen? ⟨mb,0,none⟩=false/\R (.slice ad n c) w')): Calls prog 24 #[P0 mb,.int .i64 ticks,.slice i o c0] w λe w'=>∃v w1,e=.returned v/\R v w1/\w'=w1.setCell ⟨mb,0,none⟩ (.int .i32 0):=by
 go_enter_defers func24,ntmps24
 go_wp2_with fail
 refine(pC mb w H y).mono ?_;rintro e w1 ⟨rfl,rfl⟩;go_wp2_with fail
 refine u.out.mono ?_;rintro e w2 ⟨ad,n,c,rfl,c0,c1,hR⟩;have G:Hid (R (.slice ad n c) w2):=hR;go_wp2_with fail
 refine leaves_cons (f:=40) (args:=#[P0 mb]) (by simp) (by simp[go_sem]) ?_;refine(ja ⟨mb,0,none⟩ .returning _ c0 c1).mono ?_;rintro e J w'' ⟨rfl,rfl,rfl⟩;exact⟨_,results_tmp rfl _ _ _,.slice ad n c,w2,rfl,G.out,rfl⟩
theorem yD(mb eb:Nat)(w:World)(y:w.cell? ⟨mb,0,none⟩=some (.int .i32 0))(o:w.frozen? ⟨mb,0,none⟩=false)(H:w.cell? ⟨mb,2,none⟩=some (P0 eb))(R:Value->World->Prop)(i:Hid (Calls prog 43 #[P0 eb] (w.setCell ⟨mb,0,none⟩ (.int .i32 1)) λe w'=>∃ad n c,e=.returned (.slice ad n c)/\w'.cell? ⟨mb,0,none⟩=some (.int .i32 1)/\w'.frozen? ⟨mb,0,none⟩=false/\R (.slice ad n c) w')): Calls prog 26 #[P0 mb] w λe w'=>∃v w1,e=.returned v/\R v w1/\w'=w1.setCell ⟨mb,0,none⟩ (.int .i32 0):=by
 go_enter_defers func26,ntmps26
 go_wp2_with fail
 refine(pC mb w y o).mono ?_;rintro e w1 ⟨rfl,rfl⟩;go_wp2_with fail
 refine i.out.mono ?_;rintro e w2 ⟨ad,n,c,rfl,c0,c1,hR⟩;have u:Hid (R (.slice ad n c) w2):=hR;go_wp2_with fail
 refine leaves_cons (f:=40) (args:=#[P0 mb]) (by simp) (by simp[go_sem]) ?_;refine(ja ⟨mb,0,none⟩ .returning _ c0 c1).mono ?_;rintro e G w'' ⟨rfl,rfl,rfl⟩;exact⟨_,results_tmp rfl _ _ _,.slice ad n c,w2,rfl,u.out,rfl⟩
theorem wM(mb eb:Nat)(w:World)(y:w.cell? ⟨mb,0,none⟩=some (.int .i32 0))(o:w.frozen? ⟨mb,0,none⟩=false)(H:w.cell? ⟨mb,2,none⟩=some (P0 eb))(R:Int->World->Prop)(i:Hid (Calls prog 42 #[P0 eb] (w.setCell ⟨mb,0,none⟩ (.int .i32 1)) λe w'=>∃x:Int,e=.returned (.int .i64 x)/\w'.cell? ⟨mb,0,none⟩=some (.int .i32 1)/\w'.frozen? ⟨mb,0,none⟩=false/\R x w')): Calls prog 25 #[P0 mb] w λe w'=>∃x w1,e=.returned (.int .i64 x)/\R x w1/\w'=w1.setCell ⟨mb,0,none⟩ (.int .i32 0):=by
 go_enter_defers func25,ntmps25
 go_wp2_with fail
 refine(pC mb w y o).mono ?_;rintro e w1 ⟨rfl,rfl⟩;go_wp2_with fail
 refine i.out.mono ?_;rintro e w2 ⟨x,rfl,c0,c1,hR⟩;have u:Hid (R x w2):=hR;go_wp2_with fail
 refine leaves_cons (f:=40) (args:=#[P0 mb]) (by simp) (by simp[go_sem]) ?_;refine(ja ⟨mb,0,none⟩ .returning _ c0 c1).mono ?_;rintro e G w'' ⟨rfl,rfl,rfl⟩;exact⟨_,results_tmp rfl _ _ _,x,w2,rfl,u.out,rfl⟩
theorem EG(v:Value)(a:Option Addr)(n c:Nat)(Z:∃u y o,v=.slice u y o)(w:World):Calls prog 138 #[.agg #[v,.slice a n c]] w λe w'=>e=.returned (.bool (decide (n≠0)))/\w.grownBy w' none:=by
 obtain⟨u,y,o,rfl⟩:=Z;by_cases hn:n=0
 .have Y:=az hn;rw[show decide (n≠0)=false by simpa using hn];clear hn;go_in;go_wp2_with fail
  have W:=bf w (.cells #[.slice u y o,.slice a n c] 141);have H:=az (ah w (.cells #[.slice u y o,.slice a n c] 141) none);generalize J:w.alloc (.cells #[.slice u y o,.slice a n c] 141)=w1 at *;clear J;have G:w1.cell? ⟨w.heap.size,1,none⟩=some (.slice a n c):=by simp[World.cell?,W]
  have i:=gP w.heap.size 1 n c a w1 G;rw[show decide (n=0)=true by simpa using Y.out]at i;refine i.mono ?_;rintro e w2 ⟨rfl,rfl⟩;go_wp2_with fail
  go_ret;exact⟨rfl,H.out⟩
 have Y:=az hn;rw[show decide (n≠0)=true by simpa using hn];clear hn;go_in;go_wp2_with fail
 have W:=bf w (.cells #[.slice u y o,.slice a n c] 141);have H:=az (ah w (.cells #[.slice u y o,.slice a n c] 141) none);generalize J:w.alloc (.cells #[.slice u y o,.slice a n c] 141)=w1 at *;clear J;have G:w1.cell? ⟨w.heap.size,1,none⟩=some (.slice a n c):=by simp[World.cell?,W]
 have i:=gP w.heap.size 1 n c a w1 G;rw[show decide (n=0)=false by simpa using Y.out]at i;refine i.mono ?_;rintro e w2 ⟨rfl,rfl⟩;go_wp2_with fail
 go_ret;exact⟨rfl,H.out⟩
def tL(w:World)(eb:Nat)(L:Nat->Nat):Prop:=eb<w.heap.size/\∀j,j<4->(∃a n c,w.cell? ⟨eb,34+j*2,none⟩=some (.slice a n c))/\∃a c,w.cell? ⟨eb,34+j*2+1,none⟩=some (.slice a (L j) c)
theorem tL.kept{w w':World}{eb:Nat}{L:Nat->Nat}(h:tL w eb L)(i:w.grownBy w' none):tL w' eb L:=⟨dm h.1 i.size,λj u=>by
 obtain⟨⟨a,n,c,e⟩,G,y,o⟩:=h.2 j u;exact⟨⟨a,n,c,(bh i (a:=⟨eb,34+j*2,none⟩) h.1).1.trans e⟩,G,y,(bh i (a:=⟨eb,34+j*2+1,none⟩) h.1).1.trans o⟩⟩
theorem Du(eb:Nat)(L:Nat->Nat)(w:World)(h:tL w eb L):Calls prog 191 #[.slice (some ⟨eb,34,none⟩) 4 4,Fv 138 #[]] w λe w'=>(∃x:Int,e=.returned (.int .i64 x)/\(0<=x↔∃k,k<4/\L k≠0))/\w.grownBy w' none:=by
 have HS:=az h;go_in;go_wp2_with fail
 go_loopw [8] (λi wr=>∃j:Nat,i=.int .i64 j/\j<=4/\Hid (∀k,k<j->L k=0)/\Hid (w.grownBy wr none)) (λi _=>4-(intOf i).toNat)
 case atStart=>exact⟨0,rfl,by omega,(λk hk=>by omega),ax _ _⟩
 case round=>
  obtain⟨j,rfl,hj,rL,Y⟩:=hrel;have hS:=HS.out.kept Y.out;by_cases W:j<4
  .obtain⟨⟨a1,n1,c1,e1⟩,a2,c2,H⟩:=hS.2 j W;have J:(j:Int)<4:=by omega
   have o:=az (EG (.slice a1 n1 c1) a2 (L j) c2 ⟨_,_,_,rfl⟩ wr);by_cases G:L j=0
   .have Z:=az G;rw[show decide (L j≠0)=false by simpa using G]at o;clear G;go_wp2_with fail
    refine o.out.mono ?_;rintro e w2 ⟨rfl,u⟩;have y:=az (an Y.out u);clear u e1 H o;go_wp2_with fail
    go_roundw
    case rel=>
     refine⟨j+1,by simp,by omega,(λk hk=>?_),y⟩;by_cases e:k=j
     .rw[e];exact Z.out
     exact rL.out k (by omega)
    case measure=>simp[intOf];omega
   have Z:=az G;rw[show decide (L j≠0)=true by simpa using G]at o;clear G;go_wp2_with fail
   refine o.out.mono ?_;rintro e w2 ⟨rfl,u⟩;have y:=az (an Y.out u);clear u e1 H o;go_wp2_with fail
   go_ret;exact⟨⟨_,rfl,⟨λ_=>⟨j,W,Z.out⟩,λ_=>by omega⟩⟩,y.out⟩
  have J:¬((j:Int)<4):=by omega
  go_wp2_with fail
  go_ret;exact⟨⟨_,rfl,⟨λe=>ch e (by omega),λe=>by
   obtain⟨k,k1,k2⟩:=e;exact ch (rL.out k (by omega)) k2⟩⟩,Y.out⟩
theorem uc(eb:Nat)(L:Nat->Nat)(w:World)(h:tL w eb L):Calls prog 139 #[.slice (some ⟨eb,34,none⟩) 4 4,Fv 138 #[]] w λe w'=>(∃b:Bool,e=.returned (.bool b)/\(b=true↔∃k,k<4/\L k≠0))/\w.grownBy w' none:=by
 have HS:=az h;go_in;go_wp2_with fail
 refine(Du eb L w HS.out).mono ?_;rintro e w2 ⟨⟨x,rfl,hx⟩,hg2⟩;have KG2:=az hg2;have HX:=az hx;clear hg2 hx
 cases hd:decide (0<=x)
 .have HD:=az (by simpa using hd);go_wp2_with fail
  go_ret;exact⟨⟨_,rfl,⟨λe=>(by first|(cases e;done)|exact ch (by simpa using e:0<=x) (by have:=HD.out;omega)),λe=>ch (HX.out.2 e) (by have:=HD.out;omega)⟩⟩,KG2.out⟩
 have HD:=az (by simpa using hd);go_wp2_with fail
 go_ret;exact⟨⟨_,rfl,⟨λ_=>HX.out.1 HD.out,λ_=>by first|rfl|(simpa using HD.out)⟩⟩,KG2.out⟩
theorem Eh(eb n c:Nat)(L:Nat->Nat)(a:Option Addr)(w:World)(u:w.cell? ⟨eb,33,none⟩=some (.slice a n c))(h:tL w eb L):Calls prog 71 #[P0 eb] w λe w'=>(∃b:Bool,e=.returned (.bool b)/\(b=true↔(n≠0\/∃k,k<4/\L k≠0)))/\w.grownBy w' none:=by
 have HS:=az h;have le:=h.1;by_cases hn:n=0
 .have i:=gP eb 33 n c a w u;rw[show decide (n=0)=true by simpa using hn]at i;have o:=az i;have G:=az hn;go_in;go_wp2_with fail
  refine o.out.mono ?_;rintro e w1 ⟨rfl,rfl⟩;go_wp2_with fail
  refine(uc eb L _ HS.out).mono ?_;rintro e w2 ⟨⟨b,rfl,W⟩,y⟩;have H:=az y;have J:=az W;go_wp2_with fail
  go_ret;exact⟨⟨_,rfl,⟨λe=>ab (J.out.1 e),λe=>e.elim (λe=>ch G.out e) (λe=>J.out.2 e)⟩⟩,H.out⟩
 have i:=gP eb 33 n c a w u;rw[show decide (n=0)=false by simpa using hn]at i;have o:=az i;have G:=az hn;go_in;go_wp2_with fail
 refine o.out.mono ?_;rintro e w1 ⟨rfl,rfl⟩;go_wp2_with fail
 go_ret;exact⟨⟨_,rfl,⟨λ_=>ag G.out,λ_=>rfl⟩⟩,ax _ _⟩
def J0(sp:Bool)(n29 n32 n33:Nat)(L:Nat->Nat)(x:Int):Prop:=(sp=true->x=5)/\(sp=false->n29=0->x=4)/\(sp=false->n29≠0->n32≠0->x=1)/\(sp=false->n29≠0->n32=0->(n33≠0\/∃k,k<4/\L k≠0)->x=2)/\(sp=false->n29≠0->n32=0->¬(n33≠0\/∃k,k<4/\L k≠0)->x=3)
theorem Et(eb:Nat)(sp:Bool)(L:Nat->Nat)(y a8 G a5 Z a0:Nat)(a4 a1 a6:Option Addr)(w:World)(a9:w.cell? ⟨eb,42,none⟩=some (.bool sp))(a3:w.cell? ⟨eb,29,none⟩=some (.slice a4 y a8))(a2:w.cell? ⟨eb,32,none⟩=some (.slice a1 G a5))(a7:w.cell? ⟨eb,33,none⟩=some (.slice a6 Z a0))(h:tL w eb L): Calls prog 42 #[P0 eb] w λe w'=>(∃x:Int,e=.returned (.int .i64 x)/\J0 sp y G Z L x)/\w.grownBy w' none:=by
 have o:=uy eb y a8 a4 w a3;have i:=gP eb 32 G a5 a1 w a2;have HW:=az (Eh eb Z a0 L a6 w a7 h);have le:=h.1
 cases sp
 .by_cases H:y=0
  .have W:=az H;rw[show decide (0<y)=false by simpa using H]at o;have J:=az o;go_in;go_wp2_with fail
   refine J.out.mono ?_;rintro e w4 ⟨rfl,rfl⟩;go_wp2_with fail
   go_ret;exact⟨⟨4,rfl,(λe=>by cases e),(λ_ _=>rfl),(λ_ e=>ch W.out e),(λ_ e=>ch W.out e),(λ_ e=>ch W.out e)⟩,ax _ _⟩
  have W:=az H;rw[show decide (0<y)=true by simp;omega]at o;have J:=az o;by_cases u:G=0
  .have HQ:=az u;rw[show decide (G=0)=true by simpa using u]at i;have Y:=az i;go_in;go_wp2_with fail
   refine J.out.mono ?_;rintro e w4 ⟨rfl,rfl⟩;go_wp2_with fail
   refine Y.out.mono ?_;rintro e w5 ⟨rfl,rfl⟩;go_wp2_with fail
   refine HW.out.mono ?_;rintro e w6 ⟨⟨b,rfl,hb⟩,hg⟩;have KG:=az hg;have HB:=az hb
   cases b
   .go_wp2_with fail
    go_ret;exact⟨⟨3,rfl,(λe=>by cases e),(λ_ e=>ch e W.out),(λ_ _ e=>ch HQ.out e),(λ_ _ _ e=>by have h9:=HB.out.2 e;cases h9),(λ_ _ _ _=>rfl)⟩,KG.out⟩
   go_wp2_with fail
   go_ret;exact⟨⟨2,rfl,(λe=>by cases e),(λ_ e=>ch e W.out),(λ_ _ e=>ch HQ.out e),(λ_ _ _ _=>rfl),(λ_ _ _ e=>ch (HB.out.1 (by first|exact rfl|trivial)) e)⟩,KG.out⟩
  have HQ:=az u;rw[show decide (G=0)=false by simpa using u]at i;have Y:=az i;go_in;go_wp2_with fail
  refine J.out.mono ?_;rintro e w4 ⟨rfl,rfl⟩;go_wp2_with fail
  refine Y.out.mono ?_;rintro e w5 ⟨rfl,rfl⟩;go_wp2_with fail
  go_ret;exact⟨⟨1,rfl,(λe=>by cases e),(λ_ e=>ch e W.out),(λ_ _ _=>rfl),(λ_ _ e=>ch e HQ.out),(λ_ _ e=>ch e HQ.out)⟩,ax _ _⟩
 go_in;go_wp2_with fail
 go_ret;exact⟨⟨5,rfl,(λ_=>rfl),(λe=>by cases e),(λe=>by cases e),(λe=>by cases e),(λe=>by cases e)⟩,ax _ _⟩
