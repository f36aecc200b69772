import Derived.Test.YtnjiinbhbjpfkaaGreatDoorTA
set_option maxRecDepth 100000
set_option maxHeartbeats 0
set_option linter.all false
namespace Go.Proofs.YtnjiinbhbjpfkaaGreatDoor
open Go.RowKit Go.Proofs.Tryz
section
theorem GC(v:Value)(a:Option Addr)(n c:Nat)(Z:∃u y o,v=.slice u y o)(w:aa):Calls prog 138 #[.agg #[v,.slice a n c]] w λe w'=>e=.returned (.bool (decide (n≠0)))/\w.grownBy w' none:=by
 obtain⟨u,y,o,rfl⟩:=Z;by_cases hn:n=0
 .have Y:=bj hn;rw[show decide (n≠0)=false by grind];clear hn;go_in;go_wp2_with fail
  have W:=bl w (.cells #[.slice u y o,.slice a n c] 141);have H:=bj (ak w (.cells #[.slice u y o,.slice a n c] 141) none);generalize J:w.alloc (.cells #[.slice u y o,.slice a n c] 141)=w1 at *;clear J;have G:w1.cell? ⟨w.heap.size,1,none⟩=some (.slice a n c):=fy W
  have i:=gL w.heap.size 1 n c a w1 G;rw[show decide (n=0)=true by simpa using Y.out]at i;refine i.mono ?_;rintro e w2 ⟨rfl,rfl⟩;go_wp2_with fail
  go_ret;exact⟨rfl,H.out⟩
 have Y:=bj hn;rw[show decide (n≠0)=true by grind];clear hn;go_in;go_wp2_with fail
 have W:=bl w (.cells #[.slice u y o,.slice a n c] 141);have H:=bj (ak w (.cells #[.slice u y o,.slice a n c] 141) none);generalize J:w.alloc (.cells #[.slice u y o,.slice a n c] 141)=w1 at *;clear J;have G:w1.cell? ⟨w.heap.size,1,none⟩=some (.slice a n c):=fy W
 have i:=gL w.heap.size 1 n c a w1 G;rw[show decide (n=0)=false by simpa using Y.out]at i;refine i.mono ?_;rintro e w2 ⟨rfl,rfl⟩;go_wp2_with fail
 go_ret;exact⟨rfl,H.out⟩
def vh(w:aa)(eb:Nat)(L:Nat->Nat):Prop:=eb<w.heap.size/\∀j,j<4->(∃a n c,w.cell? ⟨eb,34+j*2,none⟩=some (.slice a n c))/\∃a c,w.cell? ⟨eb,34+j*2+1,none⟩=some (.slice a (L j) c)
def vh.kept{w w':aa}{eb:Nat}{L:Nat->Nat}(h:vh w eb L)(i:w.grownBy w' none):vh w' eb L:=⟨dm h.1 i.size,λj u=>by
 obtain⟨⟨a,n,c,e⟩,G,y,o⟩:=h.2 j u;exact⟨⟨a,n,c,(bd i (a:=ay eb (34+j*2)) h.1).1.trans e⟩,G,y,(bd i (a:=ay eb (34+j*2+1)) h.1).1.trans o⟩⟩
theorem EX(eb:Nat)(L:Nat->Nat)(w:aa)(h:vh w eb L):Calls prog 191 #[.slice (some (ay eb 34)) 4 4,Fv 138 #[]] w λe w'=>(∃x:Int,e=.returned (aj x)/\(0<=x↔∃k,k<4/\L k≠0))/\w.grownBy w' none:=by
 have HS:=bj h;go_in;go_wp2_with fail
 go_loopw [8] (λi wr=>∃j:Nat,i=aj j/\j<=4/\Hid (∀k,k<j->L k=0)/\Hid (w.grownBy wr none)) (λi _=>4-(intOf i).toNat)
 case atStart=>exact⟨0,rfl,ag,(λk hk=>by omega),aw _ _⟩
 case round=>
  obtain⟨j,rfl,hj,rL,Y⟩:=hrel;have hS:=HS.out.kept Y.out;by_cases W:j<4
  .obtain⟨⟨a1,n1,c1,e1⟩,a2,c2,H⟩:=hS.2 j W;have J:(j:Int)<4:=ag
   have o:=bj (GC (.slice a1 n1 c1) a2 (L j) c2 ⟨_,_,_,rfl⟩ wr);by_cases G:L j=0
   .have Z:=bj G;rw[show decide (L j≠0)=false by grind]at o;clear G;go_wp2_with fail
    refine du o λw2 u=>?_;have y:=bj (ar Y.out u);clear u e1 H o;go_wp2_with fail
    go_roundw
    case rel=>
     refine⟨j+1,eB,ag,(λk hk=>?_),y⟩;by_cases e:k=j
     .rw[e];exact Z.out
     exact rL.out k ag
    case measure=>simp[intOf];omega
   have Z:=bj G;rw[show decide (L j≠0)=true by grind]at o;clear G;go_wp2_with fail
   refine du o λw2 u=>?_;have y:=bj (ar Y.out u);clear u e1 H o;go_wp2_with fail
   go_ret;exact⟨⟨_,rfl,⟨λ_=>⟨j,W,Z.out⟩,λ_=>by omega⟩⟩,y.out⟩
  have J:¬((j:Int)<4):=ag
  go_wp2_with fail
  go_ret;exact⟨⟨_,rfl,⟨λe=>dp e ag,λe=>by
   obtain⟨k,k1,k2⟩:=e;exact dp (rL.out k ag) k2⟩⟩,Y.out⟩
theorem vC(eb:Nat)(L:Nat->Nat)(w:aa)(h:vh w eb L):Calls prog 139 #[.slice (some (ay eb 34)) 4 4,Fv 138 #[]] w λe w'=>(∃b:Bool,e=.returned (.bool b)/\(b=true↔∃k,k<4/\L k≠0))/\w.grownBy w' none:=by
 have HS:=bj h;go_in;go_wp2_with fail
 refine(EX eb L w HS).mono ?_;rintro e w2 ⟨⟨x,rfl,hx⟩,hg2⟩;change Hid _ at hg2 hx
 cases hd:decide (0<=x)
 .have HD:=bj (gG hd);go_wp2
  go_ret;exact⟨⟨_,rfl,⟨λe=>(by grind),λe=>dp (hx.2 e) eR⟩⟩,hg2⟩
 have HD:=bj (gG hd);go_wp2
 go_ret;exact⟨⟨_,rfl,⟨λ_=>hx.1 HD,λ_=>by grind⟩⟩,hg2⟩
theorem F4(eb n c:Nat)(L:Nat->Nat)(a:Option Addr)(w:aa)(u:w.cell? (ay eb 33)=some (.slice a n c))(h:vh w eb L):Calls prog 71 #[P0 eb] w λe w'=>(∃b:Bool,e=.returned (.bool b)/\(b=true↔(n≠0\/∃k,k<4/\L k≠0)))/\w.grownBy w' none:=by
 have HS:=bj h;have le:=h.1;by_cases hn:n=0
 .have i:=gL eb 33 n c a w u;rw[show decide (n=0)=true by grind]at i;have o:=bj i;have G:=bj hn;go_in;go_wp2_with fail
  refine du o ?_;rintro w1 rfl;go_wp2_with fail
  refine(vC eb L _ HS).mono ?_;rintro e w2 ⟨⟨b,rfl,W⟩,y⟩;have H:=bj y;have J:=bj W;go_wp2
  go_ret;simp_all
 have i:=gL eb 33 n c a w u;rw[show decide (n=0)=false by grind]at i;have o:=bj i;have G:=bj hn;go_in;go_wp2_with fail
 refine du o ?_;rintro w1 rfl;go_wp2
 go_ret;exact⟨⟨_,rfl,⟨λ_=>af G,λ_=>rfl⟩⟩,aw _ _⟩
def MB(sp:Bool)(n29 n32 n33:Nat)(L:Nat->Nat)(x:Int):Prop:=(sp=true->x=5)/\(sp=false->n29=0->x=4)/\(sp=false->n29≠0->n32≠0->x=1)/\(sp=false->n29≠0->n32=0->(n33≠0\/∃k,k<4/\L k≠0)->x=2)/\(sp=false->n29≠0->n32=0->¬(n33≠0\/∃k,k<4/\L k≠0)->x=3)
theorem Gg(eb:Nat)(sp:Bool)(L:Nat->Nat)(y a8 G a5 Z a0:Nat)(a4 a1 a6:Option Addr)(w:aa)(a9:w.cell? (ay eb 42)=some (.bool sp))(a3:w.cell? (ay eb 29)=some (.slice a4 y a8))(a2:w.cell? (ay eb 32)=some (.slice a1 G a5))(a7:w.cell? (ay eb 33)=some (.slice a6 Z a0))(h:vh w eb L): Calls prog 42 #[P0 eb] w λe w'=>(∃x:Int,e=.returned (aj x)/\MB sp y G Z L x)/\w.grownBy w' none:=by
 have o:=vT eb y a8 a4 w a3;have i:=gL eb 32 G a5 a1 w a2;have HW:=bj (F4 eb Z a0 L a6 w a7 h);have le:=h.1
 cases sp
 .by_cases H:y=0
  .have W:=bj H;rw[show decide (0<y)=false by grind]at o;have J:=bj o;go_in;go_wp2_with fail
   refine du J ?_;rintro w4 rfl;go_wp2
   go_ret;exact⟨⟨4,rfl,(λe=>by cases e),(λ_ _=>rfl),(λ_ e=>dp W e),(λ_ e=>dp W e),(λ_ e=>dp W e)⟩,aw _ _⟩
  have W:=bj H;rw[show decide (0<y)=true by grind]at o;have J:=bj o;by_cases u:G=0
  .have HQ:=bj u;rw[show decide (G=0)=true by grind]at i;have Y:=bj i;go_in;go_wp2_with fail
   refine du J ?_;rintro w4 rfl;go_wp2_with fail
   refine du Y ?_;rintro w5 rfl;go_wp2_with fail
   refine HW.mono ?_;rintro e w6 ⟨⟨b,rfl,hb⟩,hg⟩;have KG:=bj hg;have HB:=bj hb
   cases b
   .go_wp2
    go_ret;exact⟨⟨3,rfl,(λe=>by cases e),(λ_ e=>dp e W),(λ_ _ e=>dp HQ e),(λ_ _ _ e=>by grind),(λ_ _ _ _=>rfl)⟩,KG⟩
   go_wp2
   go_ret;exact⟨⟨2,rfl,(λe=>by cases e),(λ_ e=>dp e W),(λ_ _ e=>dp HQ e),(λ_ _ _ _=>rfl),(λ_ _ _ e=>dp (HB.1 eR) e)⟩,KG⟩
  have HQ:=bj u;rw[show decide (G=0)=false by grind]at i;have Y:=bj i;go_in;go_wp2_with fail
  refine du J ?_;rintro w4 rfl;go_wp2_with fail
  refine du Y ?_;rintro w5 rfl;go_wp2
  go_ret;exact⟨⟨1,rfl,(λe=>by cases e),(λ_ e=>dp e W),(λ_ _ _=>rfl),(λ_ _ e=>dp e HQ),(λ_ _ e=>dp e HQ)⟩,aw _ _⟩
 go_in;go_wp2
 go_ret;exact⟨⟨5,rfl,(λ_=>rfl),(λe=>by cases e),(λe=>by cases e),(λe=>by cases e),(λe=>by cases e)⟩,aw _ _⟩
