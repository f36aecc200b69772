import Derived.Test.YtnjiinbhbjpfkaaGreatDoorAP
set_option maxRecDepth 100000
set_option maxHeartbeats 0
set_option linter.all false
namespace Go.Proofs.YtnjiinbhbjpfkaaGreatDoor
open Go.RowKit Go.Proofs.Tryz
section
theorem Fl{α:Type}(xs:List α)(y:α)(k j:Nat)(v:α)(G:k<xs.length)(h:(xs.take k++y :: xs.drop k)[j]?=some v):(j<k/\xs[j]?=some v)\/(j=k/\v=y)\/(∃i,j=k+1+i/\(xs.drop k)[i]?=some v):=by
 grind
def vL{w:aa}{g n:Nat}{T:TypeId}(h:jQ w g T n):jQ w.drew g T n:=h
theorem EB(n k x c:Nat)(y:Value)(hy:y.oneCell'=true)(xs:List Value)(h1:∀v∈xs,v.oneCell'=true)(w:aa)(ad:Option Addr)(hown:w.ownsRow 0 155 1 (.slice ad n c) n xs)(hk:k<n)(hx:w.heap[x]?=some (.cells #[y] 155 (0,0)))(hxb:∀b,(Value.slice ad n c).ownBlock=some b->b≠x)(hn2:n<=900000000):Calls prog 203 #[.slice ad n c,ah k,dD x 1 1] w λe w'=>∃g' c',e=.returned (dD g' (n+1) c')/\w'.ownsRow 0 155 1 (dD g' (n+1) c') (n+1) (xs.take k++y :: xs.drop k)/\w.grownBy w' (Value.slice ad n c).ownBlock/\((Value.slice ad n c).ownBlock=some g'\/w.heap.size<=g'):=by
 let⟨b,c2,he⟩:=ef hown af;injection he with he1 _ he2;subst he1 he2;let⟨_,hnc,hcm,hlen,hB,hcell⟩:=ik hown;have hxy:w.cell? (az x 0)=some y:=fj hx
 have hlx:(xs.take k++y :: xs.drop k).length=n+1:=by
  rw[db,List.length_cons,List.length_take,List.length_drop];omega
 have hdl:(xs.drop k).length=n-k:=lD List.length_drop
 by_cases hroom:n+1<=c
 .have hsp:∀j,j<n+1->(w.cell?<|az b j).isSome=true:=λj hj=>by
   let⟨⟨v,hv⟩,_⟩:=hB.cell j af;grind
  let⟨cur,hcur,hsz⟩:=id hB;refine dq (CD b n c k x xs y w hk hroom (by grind[maxLen]) (λe=>hxb b rfl e.symm) hlen hcell hsp (λj hj=>(hB.cell j af).2) hxy h1 hy 155 155 1 c (by simp[World.shape?,hx]) (by grind[World.shape?]) af (pk hx)<|pk hx) ?_;rintro w' rfl;have hsp2:∀j,j < [y].length->((w.drew.setCells b (k+1)<|xs.drop k).cell?<|az b<|k+j).isSome=true:=λj hj=>by
   have hj0:j=0:=by simp at hj;exact hj
   subst hj0;rw[World.cell?_setCells_out b (xs.drop k) (k+1) w.drew (az b<|k+0)<|λ_ _=>ag ey];simp_all
  refine⟨b,c,rfl,nT (di _) hroom hcm hlx (jQ.xD b _ _ _<|jQ.xD b _ _ _<|vL hB)<|λj v hj=>?_,na b (na b (bo<|aw _ _) _ _) _ _,ag rfl⟩;rcases Fl xs y k j v af hj with⟨a1,a2⟩|⟨rfl,rfl⟩|⟨i,rfl,a2⟩
  .rw[World.cell?_setCells_out b [y] k _ (az b j)<|λ_ _=>ag a1,World.cell?_setCells_out b (xs.drop k) (k+1) _ (az b j)<|λ_ _=>ag (by show j<k+1;omega)];exact hcell j v a2
  .exact World.cell?_setCells_in b [v] j _ hsp2 0 eG
  let⟨hi,e⟩:=cf.1 a2;rw[World.cell?_setCells_out b [y] k _ (az b<|k+1+i)<|λ_ _=>ak (by show k+1<=k+1+i;omega),(World.cell?_setCells_in b (xs.drop k) (k+1) w.drew<|λj hj=>hsp _ af) i hi,e]
 refine dq (CE b n c k x xs y w hk hnc af af hlen hcell hxy h1 hy) ?_;rintro w' rfl;have hGn:n+1<=grownCap w (n+1) c 155:=grownCap_ge w _ _ _;have hGm:=grownCap_le_maxLen w (n+1) c 155 pY;generalize grownCap w (n+1) c 155=G at*;obtain⟨ROW,hROW⟩:∃ROW:Array Value,ROW=(xs.take k).toArray++Builtin.zeroCells (Value.pointer none).cells (n+1-k)++Builtin.zeroCells (Value.pointer none).cells (G-(n+1)):=⟨_,rfl⟩;have hRs:ROW.size=G:=by
  rw[hROW];simp[Builtin.zeroCells,Value.cells];omega
 have hRg:∀j v,j<k->xs[j]?=some v->ROW[j]?=some v:=λj v hj hv=>by
  rw[hROW,Array.getElem?_append_left (by simp[Builtin.zeroCells,Value.cells];omega),Array.getElem?_append_left fV];simp[hj,hv]
 rw[<-hROW];have hnew:(gG w ROW 155).heap[fp w]?=ny ROW 155:=bl w _;have hB0:jQ (gG w ROW 155) (fp w) 155 G:=⟨ROW,hnew,hRs⟩;have hB1:jQ (((gG w ROW 155).drew.setCells (fp w) k [y]).drew) (fp w) 155 G:=jQ.xD _ _ _ _<|vL hB0;have hsome:∀(W:aa),jQ W (fp w) 155 G->∀j,j<n+1->(W.cell?<|az (fp w) j).isSome=true:=λW hW j hj=>by
  let⟨⟨v,hv⟩,_⟩:=hW.cell j af;rw[hv];rfl
 refine⟨w.heap.size,G,rfl,nT (di _) hGn hGm hlx (jQ.xD _ _ _ _ hB1)<|λj v hj=>?_,?_,ak<|bm _⟩
 .rcases Fl xs y k j v af hj with⟨a1,a2⟩|⟨rfl,rfl⟩|⟨i,rfl,a2⟩
  .rw[World.cell?_setCells_out (fp w) (xs.drop k) (k+1) _ (az (fp w) j)<|λ_ _=>ag (by show j<k+1;omega)];show((gG w ROW 155).drew.setCells (fp w) k [y]).cell? (az (fp w) j)=_;rw[World.cell?_setCells_out (fp w) [y] k _ (az (fp w) j)<|λ_ _=>ag a1];show(gG w ROW 155).cell? (az (fp w) j)=_;simp only[World.cell?,hnew];exact hRg j v a1 a2
  .rw[World.cell?_setCells_out (fp w) (xs.drop j) (j+1) _ (az (fp w) j)<|λ_ _=>ag (by show j<j+1;omega)];exact World.cell?_setCells_in (fp w) [v] j _ (λj' hj'=>by
    have hj0:j'=0:=by simp at hj';exact hj'
    subst hj0;exact hsome _ (vL hB0) (j+0) af) 0 eG
  let⟨hi,e⟩:=cf.1 a2;rw[<-e];exact World.cell?_setCells_in (fp w) (xs.drop k) (k+1) _ (λj' hj'=>hsome _ hB1 (k+1+j') af) i hi
 have hout:∀{W:aa},w.grownBy W (some b)->∀(vs:List Value) (o:Nat),w.grownBy (W.setCells (fp w) o vs)<|some b:=fun {W} hW vs=>by
  induction vs generalizing W with
  |nil=>intro o;exact hW
  |cons v vs ih=>intro o;exact ih (bu hW (ak<|bm _) _)<|o+1
 exact hout (bo<|hout (bo<|aj _ _ _) _ _) _ _
def NM(w w':aa)(b o:Nat)(T:TypeId)(N:Nat)(E Tk:Nat->Value)(ad:Option Addr)(n c tb k:Nat)(xs:List Nat):Prop:=
 ∃g c',Ln w' b o T N (eE E o<|.slice (some ⟨g,0,none⟩) (n+1) c') (some ⟨g,0,none⟩) (n+1) c' (xs.take k++tb :: xs.drop k)/\Full w' tb 160 7 7 (eE (eE Tk 2<|.bool false) 3<|Pt b o)/\dN (λk=>k=b\/k=tb\/(Value.slice ad n c).ownBlock=some k) w w'/\((Value.slice ad n c).ownBlock=some g\/w.heap.size<=g)
theorem IE(b o c n tb N k:Nat)(hk:k<n)(T:TypeId)(ad:Option Addr)(E Tk:Nat->Value)(xs:List Nat)(R:aa->Prop)(w:aa)(nb:b≠tb)(nk:∀k,(Value.slice ad n c).ownBlock=some k->k≠b/\k≠tb)(aM:n<=900000000)(H:eN 133 #[P0 tb] w λw1=>Ln w1 b o T N E ad n c xs/\Full w1 tb 160 7 7 Tk/\R w1):eN 166 #[Pt b o,ah k,P0 tb] w λw'=>∃w1,R w1/\NM w1 w' b o T N E Tk ad n c tb k xs:=by
 have HH:=bj H;have HK:=bj nk;clear H nk;delta eN;go_in;go_wp2_with fail
 refine dq HH ?_;rintro w1 ⟨hL,hT,hR⟩;obtain⟨a3,aG⟩:=hL.hE.cells o hL.ho;obtain⟨c2,z2⟩:=hT.cells 2 af;obtain⟨c3,z3⟩:=hT.cells 3 af;rw[hL.e]at a3;generalize Tk 2=y2 at c2;generalize Tk 3=y3 at c3;have le:=hL.hE.lt;have lt:=hT.lt;have Y:=bj hL;have HT:=bj hT;have HR:=bj hR;have aI:¬tb=b:=λe=>nb e.symm;clear hL hT hR;go_wp2_with fail
 generalize y:((w1.setCell (az tb 2)<|.bool false).setCell (az tb 3)<|.pointer<|some<|az b o).alloc (.cells #[P0 tb] 155)=w2;have aA:w2.heap.size=w1.heap.size+1:=by rw[<-y];simp[World.setCell]
 have G:∀k,k≠tb->k<w1.heap.size->w2.heap[k]?=w1.heap[k]?:=λk hk aE=>by
  grind[Below.heap_alloc,World.setCell,Below.heap_setCell]
 have W:Ln w2 b o T N E ad n c xs:={hE:=Y.hE.block<|G b nb le,ho:=Y.ho,e:=Y.e,row:=dS Y.row<|λk' a4=>G k' (HK k' a4).2 (dR Y.row k' a4).2.1,hn:=Y.hn};have a0:Full w2 tb 160 7 7 (eE (eE Tk 2<|.bool false) 3<|Pt b o):=by
  rw[<-y];exact(((HT.eE 2 _).eE 3 _).block<|au _ _ _<|by simp_all)
 have a2:w2.heap[w1.heap.size]?=some (.cells #[P0 tb] 155 (0,0)):=by
  rw[<-y];have:=bl ((w1.setCell (az tb 2)<|.bool false).setCell (az tb 3)<|.pointer<|some<|az b o)<|.cells #[P0 tb] 155;simpa[World.setCell] using this
 have a9:dN (λk=>k=b\/k=tb\/(Value.slice ad n c).ownBlock=some k) w1 w2:=by
  rw[<-y];exact gV (bq (bq (dx _ _) (ag<|ak<|ag rfl) _) (ag<|ak<|ag rfl) _) _
 refine(EB n k w1.heap.size c (P0 tb) rfl (xs.map P0) (λv hv=>by obtain⟨u,_,rfl⟩:=eX.1 hv;rfl) w2 ad W.row hk a2 (λb' aC=>by have:=(dR Y.row b' aC).2.1;omega) af).mono ?_;rintro e w3 ⟨g,c',rfl,a6,i,Z⟩;have J:=W.hE.block<|i.block b W.hE.lt<|λh=>(HK b h.symm).1 rfl;have a7:=a0.block<|i.block tb a0.lt<|λh=>(HK tb h.symm).2 rfl;have a8:=
  a9.trans (S1:=λk=>(Value.slice ad n c).ownBlock=some k) ⟨i.os,i.tape,i.output,i.size,λk hk hn=>i.block k hk<|λe=>hn e.symm⟩ (λk h _=>ak<|ak h)
 have a5:g≠b/\g≠tb:=by
  rcases Z with h|h
  .exact HK g h
  exact⟨af,af⟩
 obtain⟨aJ,aL⟩:=J.cells o Y.ho;have aF:=bj J;have aD:=bj a7;have aH:=bj a8;have a1:=bj<|bh a5<|bh Z aA;have aB:Hid (w3.ownsRow 0 155 1 (dD g (n+1) c') (n+1)<|(xs.take k++tb :: xs.drop k).map P0):=by
  show World.ownsRow _ _ _ _ _ _ _;rw[gX,List.map_take,List.map_cons,List.map_drop];exact a6
 clear y G W a0 a2 a9 a6 i Z J a7 a8 a5 a3 aG c2 z2 c3 z3;go_wp2_with fail
 go_end0;refine⟨rfl,w1,HR,g,c',{hE:=aF.eE o _,ho:=Y.ho,e:=gU _ _ _,row:=dS aB<|λk' h=>?_,hn:=by omega},aD.off<|λe=>nb e.symm,bq aH (ag<|ag rfl) _,?_⟩
 .have:k'=g:=by injection h with h;exact h.symm
  subst this;exact ab _ _ _ _ a1.1.1
 rcases a1.2.1 with h|h
 .exact ag h
 exact ak af
theorem wI(eb:Nat)(z:Int)(w:aa)(h:z<0\/4<=z):Calls prog 130 #[P0 eb,.int .i64 z] w λe w'=>e=.returned (.tuple #[.pointer none,.bool false])/\w'=w:=by
 rcases h with h|h
 .go_in;go_wp2_with fail
  go_ret2
  simp_all
 have i:¬z<0:=af
 go_in;go_wp2_with fail
 go_ret2
 simp_all
theorem qN(eb k:Nat)(w:aa)(h:k<4):dC 130 #[P0 eb,ah k] w (.tuple #[Pt eb<|34+k*2,.bool true]) λw'=>w'=w:=by
 have o:¬(k:Int)<0:=af
 have i:(k:Int)<4:=af
 delta dC;go_in;go_wp2
 go_ret2
 simp_all
theorem DO(a:Addr)(m n:Nat):(a.add m).add n=a.add (m+n):=by
 unfold Addr.add;grind
theorem EP(eb:Nat)(ad:Option Addr)(n c:Nat)(xs:List (Int×Nat))(I:List (Int×Nat)->aa->Prop)(w:aa)(hI:I xs w)(hn:n=xs.length)(a4:n<=1000000000)(ha:ad=none->xs=[])(HC:∀ys w1,I ys w1->∀a,ad=some a->∀j x,xs[j]?=some x->w1.cell? (a.add<|j*2)=some (ah x.1)/\w1.cell? (a.add<|j*2+1)=some (dz x.2))(HG:∀ys w1 w2,I ys w1->w1.grownBy w2 none->I ys w2)(HE:∀ys w1,I ys w1->eb<w1.heap.size)(HS:∀x r w1,I (x :: r) w1->0<=x.1/\x.1<4->eN 131 #[Pt eb<|34+x.1.toNat*2,dz x.2] w1 λw'=>I r w')(HN:∀x r w1,I (x :: r) w1->¬(0<=x.1/\x.1<4)->I r w1):eN 65 #[P0 eb,.slice ad n c] w λw'=>I [] w':=by
 change Hid _ at hI HC HG HE HS HN ha hn;delta eN;go_in;go_wp2
 go_loopw[10] (λi wr=>∃j:Nat,i=ah j/\j<=n/\Hid (I (xs.drop j) wr)) (λi _=>n-(intOf i).toNat)
 case atStart=>grind
 case round=>
  obtain⟨j,rfl,hj,u⟩:=hrel;by_cases a5:j<n
  .obtain⟨x,H⟩:∃x,xs[j]?=some x:=⟨_,bw<|gD hn.out⟩;obtain⟨a,rfl⟩:∃a,ad=some a:=by
    cases ad with
    |none=>rw[ha rfl]at H;grind
    |some a=>grind
   obtain⟨c0,c1⟩:=HC _ _ u a rfl j x H;obtain⟨y,J⟩:=cf.1 H;have Z:xs.drop j=x :: xs.drop (j+1):=by rw[<-J];exact List.drop_eq_getElem_cons y
   rw[Z]at u;have W:(j:Int)<n:=af
   obtain⟨z,b⟩:=x;simp only at c0 c1;rw[<-DO]at c1;have G:dW wr ((a.add<|j*2).block) ((a.add<|j*2).off+1)=some (dz b):=c1;clear c1;clear H J Z y;by_cases hz:0<=z/\z<4
   .obtain⟨k,rfl⟩:∃k:Nat,z=(k:Int):=⟨z.toNat,af⟩;have hk:k<4:=af
    have a2:Hid (∀w1,wr.grownBy w1 none->eN 131 #[Pt eb<|34+k*2,dz b] w1 λw'=>I (xs.drop<|j+1) w'):=λw1 hg=>by
     have h1:=HS _ _ w1 (HG _ _ _ u hg) hz;grind
    clear hz u;go_wp2_with fail
    refine dq (qN eb k _ hk) ?_;rintro w2 rfl;go_wp2_with fail
    refine dq (a2 _<|aj _ _ _) λw3 a1=>?_;change Hid _ at a1;clear a2 c0 G;go_wp2
    go_roundw
    case rel=>grind
    case measure=>simp[intOf];omega
   have Y:Hid (∀w1,wr.grownBy w1 none->I (xs.drop<|j+1) w1):=λw1 hg=>HN _ _ w1 (HG _ _ _ u hg) hz;have a3:z<0\/4<=z:=af
   clear hz u;go_wp2_with fail
   refine dq (wI eb z _ a3) ?_;rintro w2 rfl;have a1:Hid (I (xs.drop<|j+1)<|wr.alloc<|.cells #[ah z,dz b] 169):=Y _<|aj _ _ _;clear Y c0 G;go_wp2
   go_roundw
   case rel=>exact⟨j+1,eG,af,a1⟩
   case measure=>simp[intOf];omega
  have W:¬((j:Int)<n):=af
  have a0:j=xs.length:=gD hn.out
  have a1:Hid (I [] wr):=by
   have:=u.out;rw[a0,List.drop_length]at this;exact this
  clear u a0;go_wp2
  go_end0;exact⟨rfl,a1⟩
