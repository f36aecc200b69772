import Derived.Test.YtnjiinbhbjpfkaaGreatDoorTH
import Derived.Test.YtnjiinbhbjpfkaaGreatDoorTE
set_option maxRecDepth 100000
set_option maxHeartbeats 0
set_option linter.all false
namespace Go.Proofs.YtnjiinbhbjpfkaaGreatDoor
open Go.RowKit Go.Proofs.Tryz
section
def G4(eb m c:Nat)(ad:Option Addr)(z:Int)(w:aa)(h:w.cell? ⟨eb,30,none⟩=some (.slice ad m c)): Calls prog 169 #[P0 eb,.int .i64 z] w λe w'=>e=.returned (.bool (decide (1<=z/\z<=(m:Int))))/\w.grownBy w' none:=by
 by_cases o:1<=z
 .by_cases u:z<=(m:Int)
  .have i:decide (1<=z/\z<=(m:Int))=true:=by simp[o,u]
   rw[i];go_in;go_wp2_with fail
   go_ret;exact⟨eB,aw _ _⟩
  have i:decide (1<=z/\z<=(m:Int))=false:=by simp[o,u]
  rw[i];go_in;go_wp2_with fail
  go_ret;exact⟨eB,aw _ _⟩
 have i:decide (1<=z/\z<=(m:Int))=false:=by simp[o]
 rw[i];go_in;go_wp2_with fail
 go_ret;exact⟨rfl,aw _ _⟩
def py(y:Option Nat):Value:=
 match y with
 | some y=>.tuple #[P0 y,.bool true]
 | none=>.tuple #[.pointer none,.bool false]
def Hv(op a b c fb tb eb:Nat)(z:Int)(p:Bool)(y:Option Nat)(R:aa->Prop)(w:aa)(H1:∀w1,w.grownBy w1 none->dD 169 #[P0 eb,aj z] w1 (.bool p) λw'=>w1.grownBy w' none)(H2:∀w1,w.grownBy w1 none->dD 170 #[P0 eb,aj z] w1 (py y) λw'=>w1.grownBy w' none)(H3:∀w1 x,w.grownBy w1 none->y=some x->eL 172 #[P0 eb,P0 x] w1 λw'=>R w')(H4:∀w1,w.grownBy w1 none->p=false\/y=none->R w1): dD 114 #[ed op a b c fb tb eb,aj z] w (aj (if p=true then 0 else 6)) λw'=>R w':=by
 have K1:=bj H1;have K2:=bj H2;have K3:=bj H3;have K4:=bj H4;delta dD;go_in;go_wp2_with fail
 have Y:=bj (iN w op a b c fb tb eb);have J:=bj (ak w (.cells #[dy op,dy a,dy b,dy c,P0 fb,P0 tb,P0 eb] 186) none);generalize hW:w.alloc (.cells #[dy op,dy a,dy b,dy c,P0 fb,P0 tb,P0 eb] 186)=w1 at *;refine du (K1 w1 J) λw2 u=>?_;have G:=bj (ar J u);have i:=da u Y im;obtain⟨x0,x1,x2,x3,x4,x5,x6⟩:=eZ i;have Z:=bj i
 cases p with
 | false=>
  go_wp2
  go_ret;exact⟨rfl,K4 _ G eB⟩
 | true=>
  go_wp2_with fail
  refine du (K2 w2 G) λw3 o=>?_;have W:=bj (ar G o);have H:=da o Z im;obtain⟨y0,y1,y2,y3,y4,y5,y6⟩:=eZ H
  cases y with
  | none=>
   simp only[py];go_wp2
   go_ret;exact⟨rfl,K4 _ W eB⟩
  | some x=>
   simp only[py];go_wp2_with fail
   refine du (K3 w3 x W rfl) λw4 hR=>?_;have HR:=bj hR;go_wp2
   go_ret;exact⟨rfl,HR⟩
def MP(p:Bool)(z:Int)(t:Nat):Prop:=p=true/\¬z=(t:Int)
def IK(p:Bool)(z t:Int):Int:=if p=true/\z≠t then 0 else 6
def Ke(z t:Int):IK false z t=6:=by simp[IK,au]
def Ie(p:Bool){z t:Int}(h:z=t):IK p z t=6:=by simp_all[IK,au]
def BD{z t:Int}(h:¬z=t):IK true z t=0:=by simp_all[IK,bf]
def Kc(op a b c fb tb eb t m co ob j:Nat)(z:Int)(p:Bool)(y:Option Nat)(v:B.V)(R:aa->Prop)(w:aa)(H1:∀w1,w.grownBy w1 none->dD 169 #[P0 eb,aj z] w1 (.bool p) λw'=>w1.grownBy w' none)(H2:∀w1,w.grownBy w1 none->dD 170 #[P0 eb,aj z] w1 (py y) λw'=>w1.grownBy w' none)(H3:∀w1 x,w.grownBy w1 none->y=some x->MP p z t->eL 171 #[ed op a b c fb tb eb,Pt x 6] w1 λw'=>R w')(H5:∀w1,w.grownBy w1 none->y=none->MP p z t->eL 149 #[ed op a b c fb tb eb,vA v] w1 λw'=>R w')(H4:∀w1,w.grownBy w1 none->p=false\/z=(t:Int)->R w1)(ht:w.cell? (ay tb 0)=some (aj t))(lt:tb<w.heap.size)(le:eb<w.heap.size)(hy:∀x,y=some x->x<w.heap.size)(hz:p=true->z=(j:Int)+1/\j<m)(hm:m<=1000000000)(he:w.cell? (ay eb 30)=some (dA ob m co))(lo:ob<w.heap.size)(hv:p=true->w.cell? (ay ob (j*2))=some (aj v.1)/\w.cell? (ay ob (j*2+1))=some (aj v.2)): dD 113 #[ed op a b c fb tb eb,aj z] w (aj (IK p z (t:Int))) λw'=>R w':=by
 change Hid _ at H1 H2 H3 H4 H5 hy hz;have KC:=bj (bh ht (bh he hv));clear ht he hv;obtain⟨v1,v2⟩:=v;delta dD;go_in;go_wp2_with fail
 have a1:=bj (iN w op a b c fb tb eb);have a0:=bj (ak w (.cells #[dy op,dy a,dy b,dy c,P0 fb,P0 tb,P0 eb] 186) none);generalize hW:w.alloc (.cells #[dy op,dy a,dy b,dy c,P0 fb,P0 tb,P0 eb] 186)=w1 at *;clear hW;refine du (H1 w1 a0) λw2 Y=>?_;have u:=bj (ar a0 Y);have H:=da Y a1 im;obtain⟨x0,x1,x2,x3,x4,x5,x6⟩:=eZ H;have a2:=bj H;have t2:=(bd u (a:=ay tb 0) lt).1.trans KC.1;clear Y H
 cases p with
 | false=>
  go_wp2
  go_ret;exact⟨jx Ke,H4 _ u eB⟩
 | true=>
  by_cases G:z=(t:Int)
  .have hb:(z == (t:Int))=true:=gG G
   change Hid _ at G;go_wp2
   go_ret;exact⟨by rw[Ie _ G];rfl,H4 _ u (by first|exact ah G|simp[G.out])⟩
  have hb:(z == (t:Int))=false:=gG G
  have G:=bj G;clear G;go_wp2_with fail
  refine du (H2 w2 u) λZ J=>?_;have o:=bj (ar u J);have W:=da J a2 im;obtain⟨y0,y1,y2,y3,y4,y5,y6⟩:=eZ W;clear J W x0 x1 x2 x3 x4 x5 x6 hb t2
  cases y with
  | some x=>
   simp only[py];go_wp2
   go_region_with (go_at_call 171;refine du (H3 Z.drew x (bo o) rfl ⟨rfl,G⟩) λw4 hR=>?_;have HR:=bj hR;clear hR)
   all_goals
    go_wp2
    go_ret;exact⟨by rw[BD G];rfl,HR⟩
  | none=>
   simp only[py];obtain⟨rfl,a6⟩:=hz eB;obtain⟨o1,o2⟩:=KC.2.2 eB;have e3:=(bd o (a:=ay eb 30) le).1.trans KC.2.1;have p1:=(bd o (a:=ay ob (j*2)) lo).1.trans o1;have p2:=(bd o (a:=ay ob (j*2+1)) lo).1.trans o2;have a8:(j:Int)<m:=ag
   have a5:(0:Int)<=j:=ag
   have a7:IntKind.i64.wrap (j:Int)=j:=jG _ ⟨ag,ag⟩;clear o1 o2;go_wp2
   go_region_with (go_at_call 149;refine du (H5 Z.drew (bo o) eB ⟨rfl,G⟩) λw4 hR=>?_;have HR:=bj hR;clear hR)
   all_goals
    go_wp2
    go_ret;exact⟨by rw[BD G];rfl,HR⟩
def vL(eb:Nat)(z:Int)(w:aa)(h:z<0\/4<=z):Calls prog 130 #[P0 eb,.int .i64 z] w λe w'=>e=.returned (.tuple #[.pointer none,.bool false])/\w'=w:=by
 rcases h with h|h
 .go_in;go_wp2_with fail
  go_ret2
  exact⟨rfl,rfl⟩
 have i:¬z<0:=ag;go_in;go_wp2_with fail
 go_ret2
 exact⟨rfl,rfl⟩
def qm(eb k:Nat)(w:aa)(h:k<4):dD 130 #[P0 eb,aj k] w (.tuple #[Pt eb (34+k*2),.bool true]) λw'=>w'=w:=by
 have o:¬(k:Int)<0:=ag;have i:(k:Int)<4:=ag;delta dD;go_in;go_wp2
 go_ret2
 exact⟨rfl,rfl⟩
def Es{α:Type}(xs:List α)(y:α)(k j:Nat)(v:α)(G:k<xs.length)(h:(xs.take k++y :: xs.drop k)[j]? = some v):(j<k/\xs[j]? = some v)\/(j=k/\v=y)\/(∃i,j=k+1+i/\(xs.drop k)[i]? = some v):=by
 grind
def uX{w:aa}{g n:Nat}{T:TypeId}(h:jF w g T n):jF w.drew g T n:=h
def DR(n k x c:Nat)(y:Value)(hy:y.oneCell'=true)(xs:List Value)(h1:∀v∈xs,v.oneCell'=true)(w:aa)(ad:Option Addr)(hown:w.ownsRow 0 155 1 (.slice ad n c) n xs)(hk:k<n)(hx:w.heap[x]? = some (.cells #[y] 155 (0,0)))(hxb:∀b,(Value.slice ad n c).ownBlock=some b->b≠x)(hn2:n<=900000000): Calls prog 203 #[.slice ad n c,aj k,dA x 1 1] w λe w'=>∃g' c',e=.returned (dA g' (n+1) c')/\w'.ownsRow 0 155 1 (dA g' (n+1) c') (n+1) (xs.take k++y :: xs.drop k)/\w.grownBy w' (Value.slice ad n c).ownBlock/\((Value.slice ad n c).ownBlock=some g'\/w.heap.size<=g'):=by
 obtain⟨b,c2,he⟩:=ee hown ag;injection he with he1 _ he2;subst he1 he2;obtain⟨_,hnc,hcm,hlen,hB,hcell⟩:=gZ hown;have hxy:w.cell? (ay x 0)=some y:=fy hx
 have hlx:(xs.take k++y :: xs.drop k).length=n+1:=by
  rw[cw,List.length_cons,List.length_take,List.length_drop];omega
 have hdl:(xs.drop k).length=n-k:=kr List.length_drop;by_cases hroom:n+1<=c
 .have hsp:∀j,j<n+1->(w.cell? (ay b j)).isSome=true:=λj hj=>by
   obtain⟨⟨v,hv⟩,_⟩:=hB.cell j ag;grind
  obtain⟨cur,hcur,hsz⟩:=id hB;refine du (B1 b n c k x xs y w hk hroom (by grind[maxLen]) (λe=>hxb b rfl e.symm) hlen hcell hsp (λj hj=>(hB.cell j ag).2) hxy h1 hy 155 155 1 c (by simp[World.shape?,hx]) (by grind[World.shape?]) ag (qE hx) (qE hx)) ?_;rintro w' rfl;have hsp2:∀j,j < [y].length->((w.drew.setCells b (k+1) (xs.drop k)).cell? (ay b (k+j))).isSome=true:=λj hj=>by
   have hj0:j=0:=by simp at hj;exact hj
   subst hj0;rw[World.cell?_setCells_out b (xs.drop k) (k+1) w.drew (ay b (k+0)) (λ_ _=>af eR)];simp_all
  refine⟨b,c,rfl,nD (dk _) hroom hcm hlx (jF.wO b _ _ _ (jF.wO b _ _ _ (uX hB))) (λj v hj=>?_),mO b (mO b (bo (aw _ _)) _ _) _ _,af rfl⟩;rcases Es xs y k j v ag hj with⟨a1,a2⟩|⟨rfl,rfl⟩|⟨i,rfl,a2⟩
  .rw[World.cell?_setCells_out b [y] k _ (ay b j) (λ_ _=>af a1),World.cell?_setCells_out b (xs.drop k) (k+1) _ (ay b j) (λ_ _=>af (by show j<k+1;omega))];exact hcell j v a2
  .exact World.cell?_setCells_in b [v] j _ hsp2 0 eB
  obtain⟨hi,e⟩:=cf.1 a2;rw[World.cell?_setCells_out b [y] k _ (ay b (k+1+i)) (λ_ _=>ah (by show k+1<=k+1+i;omega)),(World.cell?_setCells_in b (xs.drop k) (k+1) w.drew (λj hj=>hsp _ ag)) i hi,e]
 refine du (B3 b n c k x xs y w hk hnc ag ag hlen hcell hxy h1 hy) ?_;rintro w' rfl;have hGn:n+1<=grownCap w (n+1) c 155:=grownCap_ge w _ _ _;have hGm:=grownCap_le_maxLen w (n+1) c 155 pY;generalize grownCap w (n+1) c 155=G at *;obtain⟨ROW,hROW⟩:∃ROW:Array Value,ROW=(xs.take k).toArray++Builtin.zeroCells (Value.pointer none).cells (n+1-k)++Builtin.zeroCells (Value.pointer none).cells (G-(n+1)):=⟨_,rfl⟩;have hRs:ROW.size=G:=by
  rw[hROW];simp[Builtin.zeroCells,Value.cells];omega
 have hRg:∀j v,j<k->xs[j]? = some v->ROW[j]? = some v:=λj v hj hv=>by
  rw[hROW,Array.getElem?_append_left (by simp[Builtin.zeroCells,Value.cells];omega),Array.getElem?_append_left fH];simp[hj,hv]
 rw[<-hROW];have hnew:(w.alloc (.cells ROW 155)).heap[w.heap.size]? = some (.cells ROW 155 (0,0)):=bl w _;have hB0:jF (w.alloc (.cells ROW 155)) w.heap.size 155 G:=⟨ROW,hnew,hRs⟩;have hB1:jF (((w.alloc (.cells ROW 155)).drew.setCells w.heap.size k [y]).drew) w.heap.size 155 G:=jF.wO _ _ _ _ (uX hB0);have hsome:∀(W:aa),jF W w.heap.size 155 G->∀j,j<n+1->(W.cell? (ay w.heap.size j)).isSome=true:=λW hW j hj=>by
  obtain⟨⟨v,hv⟩,_⟩:=hW.cell j ag;rw[hv];rfl
 refine⟨w.heap.size,G,rfl,nD (dk _) hGn hGm hlx (jF.wO _ _ _ _ hB1) (λj v hj=>?_),?_,ah (bq _)⟩
 .rcases Es xs y k j v ag hj with⟨a1,a2⟩|⟨rfl,rfl⟩|⟨i,rfl,a2⟩
  .rw[World.cell?_setCells_out w.heap.size (xs.drop k) (k+1) _ (ay w.heap.size j) (λ_ _=>af (by show j<k+1;omega))];show((w.alloc (.cells ROW 155)).drew.setCells w.heap.size k [y]).cell? (ay w.heap.size j)=_;rw[World.cell?_setCells_out w.heap.size [y] k _ (ay w.heap.size j) (λ_ _=>af a1)];show(w.alloc (.cells ROW 155)).cell? (ay w.heap.size j)=_;simp only[World.cell?,hnew];exact hRg j v a1 a2
  .rw[World.cell?_setCells_out w.heap.size (xs.drop j) (j+1) _ (ay w.heap.size j) (λ_ _=>af (by show j<j+1;omega))];exact World.cell?_setCells_in w.heap.size [v] j _ (λj' hj'=>by
    have hj0:j'=0:=by simp at hj';exact hj'
    subst hj0;exact hsome _ (uX hB0) (j+0) ag) 0 eB
  obtain⟨hi,e⟩:=cf.1 a2;rw[<-e];exact World.cell?_setCells_in w.heap.size (xs.drop k) (k+1) _ (λj' hj'=>hsome _ hB1 (k+1+j') ag) i hi
 have hout:∀{W:aa},w.grownBy W (some b)->∀(vs:List Value) (o:Nat),w.grownBy (W.setCells w.heap.size o vs) (some b):=fun {W} hW vs=>by
  induction vs generalizing W with
  | nil=>intro o;exact hW
  | cons v vs ih=>intro o;exact ih (bu hW (ah (bq _)) _) (o+1)
 exact hout (bo (hout (bo (ak _ _ _)) _ _)) _ _
def MN(w w':aa)(b o:Nat)(T:TypeId)(N:Nat)(E Tk:Nat->Value)(ad:Option Addr)(n c tb k:Nat)(xs:List Nat):Prop:=
 ∃g c',Ln w' b o T N (eC E o (.slice (some ⟨g,0,none⟩) (n+1) c')) (some ⟨g,0,none⟩) (n+1) c' (xs.take k++tb :: xs.drop k)/\Full w' tb 160 7 7 (eC (eC Tk 2 (.bool false)) 3 (Pt b o))/\dM (λk=>k=b\/k=tb\/(Value.slice ad n c).ownBlock=some k) w w'/\((Value.slice ad n c).ownBlock=some g\/w.heap.size<=g)
def G8(b o c n tb N k:Nat)(hk:k<n)(T:TypeId)(ad:Option Addr)(E Tk:Nat->Value)(xs:List Nat)(R:aa->Prop)(w:aa)(nb:b≠tb)(nk:∀k,(Value.slice ad n c).ownBlock=some k->k≠b/\k≠tb)(aM:n<=900000000)(H:eL 133 #[P0 tb] w λw1=>Ln w1 b o T N E ad n c xs/\Full w1 tb 160 7 7 Tk/\R w1): eL 166 #[Pt b o,aj k,P0 tb] w λw'=>∃w1,R w1/\MN w1 w' b o T N E Tk ad n c tb k xs:=by
 have HH:=bj H;have HK:=bj nk;clear H nk;delta eL;go_in;go_wp2_with fail
 refine du HH ?_;rintro w1 ⟨hL,hT,hR⟩;obtain⟨a3,aG⟩:=hL.hE.cells o hL.ho;obtain⟨c2,z2⟩:=hT.cells 2 ag;obtain⟨c3,z3⟩:=hT.cells 3 ag;rw[hL.e]at a3;generalize Tk 2=y2 at c2;generalize Tk 3=y3 at c3;have le:=hL.hE.lt;have lt:=hT.lt;have Y:=bj hL;have HT:=bj hT;have HR:=bj hR;have aI:¬tb=b:=λe=>nb e.symm;clear hL hT hR;go_wp2_with fail
 generalize y:((w1.setCell (ay tb 2) (.bool false)).setCell (ay tb 3) (.pointer (some (ay b o)))).alloc (.cells #[P0 tb] 155)=w2;have aA:w2.heap.size=w1.heap.size+1:=by rw[<-y];simp[World.setCell]
 have G:∀k,k≠tb->k<w1.heap.size->w2.heap[k]? = w1.heap[k]?:=λk hk aE=>by
  grind[Below.heap_alloc,World.setCell,Below.heap_setCell]
 have W:Ln w2 b o T N E ad n c xs:={ hE:=Y.hE.block (G b nb le),ho:=Y.ho,e:=Y.e,row:=dQ Y.row (λk' a4=>G k' (HK k' a4).2 (dP Y.row k' a4).2.1),hn:=Y.hn };have a0:Full w2 tb 160 7 7 (eC (eC Tk 2 (.bool false)) 3 (Pt b o)):=by
  rw[<-y];exact(((HT.eC 2 _).eC 3 _).block (av _ _ _ (by simp_all)))
 have a2:w2.heap[w1.heap.size]? = some (.cells #[P0 tb] 155 (0,0)):=by
  rw[<-y];have:=bl ((w1.setCell (ay tb 2) (.bool false)).setCell (ay tb 3) (.pointer (some (ay b o)))) (.cells #[P0 tb] 155);simpa[World.setCell] using this
 have a9:dM (λk=>k=b\/k=tb\/(Value.slice ad n c).ownBlock=some k) w1 w2:=by
  rw[<-y];exact gP (bp (bp (dw _ _) (af (ah (af rfl))) _) (af (ah (af rfl))) _) _
 refine(DR n k w1.heap.size c (P0 tb) rfl (xs.map P0) (λv hv=>by obtain⟨u,_,rfl⟩:=eK.1 hv;rfl) w2 ad W.row hk a2 (λb' aC=>by have:=(dP Y.row b' aC).2.1;omega) ag).mono ?_;rintro e w3 ⟨g,c',rfl,a6,i,Z⟩;have J:=W.hE.block (i.block b W.hE.lt (λh=>(HK b h.symm).1 rfl));have a7:=a0.block (i.block tb a0.lt (λh=>(HK tb h.symm).2 rfl));have a8:=
  a9.trans (S1:=λk=>(Value.slice ad n c).ownBlock=some k) ⟨i.os,i.tape,i.output,i.size,λk hk hn=>i.block k hk (λe=>hn e.symm)⟩ (λk h _=>ah (ah h))
 have a5:g≠b/\g≠tb:=by
  rcases Z with h|h
  .exact HK g h
  exact⟨ag,ag⟩
 obtain⟨aJ,aL⟩:=J.cells o Y.ho;have aF:=bj J;have aD:=bj a7;have aH:=bj a8;have a1:=bj (bh a5 (bh Z aA));have aB:Hid (w3.ownsRow 0 155 1 (dA g (n+1) c') (n+1) ((xs.take k++tb :: xs.drop k).map P0)):=by
  show World.ownsRow _ _ _ _ _ _ _;rw[gR,List.map_take,List.map_cons,List.map_drop];exact a6
 clear y G W a0 a2 a9 a6 i Z J a7 a8 a5 a3 aG c2 z2 c3 z3;go_wp2_with fail
 go_end0;refine⟨rfl,w1,HR,g,c',{ hE:=aF.eC o _,ho:=Y.ho,e:=gO _ _ _,row:=dQ aB (λk' h=>?_),hn:=by omega },aD.off (λe=>nb e.symm),bp aH (af (af rfl)) _,?_⟩
 .have:k'=g:=by injection h with h;exact h.symm
  subst this;exact ab _ _ _ _ a1.1.1
 rcases a1.2.1 with h|h
 .exact af h
 exact ah ag
def C3(a:Addr)(m n:Nat):(a.add m).add n=a.add (m+n):=by
 unfold Addr.add;by_cases h:m=0
 .subst h;simp
 by_cases e:n=0
 .subst e;simp
 rw[au e,au h,eD];simp[Nat.add_assoc]
def D8(eb:Nat)(ad:Option Addr)(n c:Nat)(xs:List (Int×Nat))(I:List (Int×Nat)->aa->Prop)(w:aa)(hI:I xs w)(hn:n=xs.length)(a4:n<=1000000000)(ha:ad=none->xs=[])(HC:∀ys w1,I ys w1->∀a,ad=some a->∀j x,xs[j]? = some x->w1.cell? (a.add (j*2))=some (aj x.1)/\w1.cell? (a.add (j*2+1))=some (dy x.2))(HG:∀ys w1 w2,I ys w1->w1.grownBy w2 none->I ys w2)(HE:∀ys w1,I ys w1->eb<w1.heap.size)(HS:∀x r w1,I (x :: r) w1->0<=x.1/\x.1<4->eL 131 #[Pt eb (34+x.1.toNat*2),dy x.2] w1 λw'=>I r w')(HN:∀x r w1,I (x :: r) w1->¬(0<=x.1/\x.1<4)->I r w1): eL 65 #[P0 eb,.slice ad n c] w λw'=>I [] w':=by
 change Hid _ at hI HC HG HE HS HN ha hn;delta eL;go_in;go_wp2
 go_loopw [10] (λi wr=>∃j:Nat,i=aj j/\j<=n/\Hid (I (xs.drop j) wr)) (λi _=>n-(intOf i).toNat)
 case atStart=>exact⟨0,rfl,ag,by show I (xs.drop 0) w;rw[List.drop_zero];exact hI⟩
 case round=>
  obtain⟨j,rfl,hj,u⟩:=hrel;by_cases a5:j<n
  .obtain⟨x,H⟩:∃x,xs[j]? = some x:=⟨_,bz (gp hn.out)⟩;obtain⟨a,rfl⟩:∃a,ad=some a:=by
    cases ad with
    | none=>rw[ha rfl]at H;simp at H
    | some a=>exact⟨a,rfl⟩
   obtain⟨c0,c1⟩:=HC _ _ u a rfl j x H;obtain⟨y,J⟩:=cf.1 H;have Z:xs.drop j=x :: xs.drop (j+1):=by rw[<-J];exact List.drop_eq_getElem_cons y
   rw[Z]at u;have W:(j:Int)<n:=ag
   obtain⟨z,b⟩:=x;simp only at c0 c1;rw[<-C3]at c1;have G:dS wr ((a.add (j*2)).block) ((a.add (j*2)).off+1)=some (dy b):=c1;clear c1;clear H J Z y;by_cases hz:0<=z/\z<4
   .obtain⟨k,rfl⟩:∃k:Nat,z=(k:Int):=⟨z.toNat,ag⟩;have hk:k<4:=ag
    have a2:Hid (∀w1,wr.grownBy w1 none->eL 131 #[Pt eb (34+k*2),dy b] w1 λw'=>I (xs.drop (j+1)) w'):=λw1 hg=>by
     have h1:=HS _ _ w1 (HG _ _ _ u hg) hz;simp only[js]at h1;exact h1
    clear hz u;go_wp2_with fail
    refine du (qm eb k _ hk) ?_;rintro w2 rfl;go_wp2_with fail
    refine du (a2 _ (ak _ _ _)) λw3 a1=>?_;change Hid _ at a1;clear a2 c0 G;go_wp2
    go_roundw
    case rel=>exact⟨j+1,eB,ag,a1⟩
    case measure=>simp[intOf];omega
   have Y:Hid (∀w1,wr.grownBy w1 none->I (xs.drop (j+1)) w1):=λw1 hg=>HN _ _ w1 (HG _ _ _ u hg) hz;have a3:z<0\/4<=z:=ag
   clear hz u;go_wp2_with fail
   refine du (vL eb z _ a3) ?_;rintro w2 rfl;have a1:Hid (I (xs.drop (j+1)) (wr.alloc (.cells #[aj z,dy b] 169))):=Y _ (ak _ _ _);clear Y c0 G;go_wp2
   go_roundw
   case rel=>exact⟨j+1,eB,ag,a1⟩
   case measure=>simp[intOf];omega
  have W:¬((j:Int)<n):=ag;have a0:j=xs.length:=gp hn.out;have a1:Hid (I [] wr):=by
   have:=u.out;rw[a0,List.drop_length]at this;exact this
  clear u a0;go_wp2
  go_end0;exact⟨rfl,a1⟩
