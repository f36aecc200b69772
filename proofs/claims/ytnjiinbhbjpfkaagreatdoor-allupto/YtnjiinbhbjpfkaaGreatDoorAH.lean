import Derived.Test.YtnjiinbhbjpfkaaGreatDoorAB
import Derived.Deep.LoopGhost
set_option maxRecDepth 100000
set_option maxHeartbeats 0
set_option linter.all false
namespace Go.Proofs.YtnjiinbhbjpfkaaGreatDoor
open Go.RowKit Go.Proofs.Tryz
section
theorem wM{α β:Type}(f:α->β):∀(xs:List α) (i:Nat),(xs.map f).eraseIdx i=(xs.eraseIdx i).map f
 | [],_=>rfl
 |_ :: _,0=>rfl
 |x :: xs,i+1=>by simp[wM f xs i]
theorem tn:∀(xs:List Nat) (x:Nat),xs.eraseIdx (xs.idxOf x)=xs.erase x
 | [],x=>rfl
 |y :: xs,x=>by
  rw[List.idxOf_cons,List.erase_cons];by_cases e:y=x
  .grind
  have i:(y == x)=false:=iE e
  rw[i];simp[tn xs x]
structure Ln(w:aa) (b o:Nat) (T:TypeId) (N:Nat) (E:Nat->Value) (ad:Option Addr) (n c:Nat) (xs:List Nat):Prop where
 hE:Full w b T N N E
 ho:o<N
 e:E o=.slice ad n c
 row:w.ownsRow 0 155 1 (.slice ad n c) n (xs.map P0)
 hn:n<=1000000000
theorem Ln.len{w:aa}{b o:Nat}{T:TypeId}{N:Nat}{E:Nat->Value}{ad:Option Addr}{n c:Nat}{xs:List Nat}(h:Ln w b o T N E ad n c xs):xs.length=n:=by
 have:=h.row.1;grind
theorem Es(b o g c n tb N:Nat)(T:TypeId)(E Tk:Nat->Value)(xs:List Nat)(w:aa)(H:Ln w b o T N E (some<|az g 0) n c xs)(hT:Full w tb 160 7 7 Tk)(Y:Tk 3=Pt b o)(hm:tb∈xs)(hX:∀x,x∈xs->jQ w x 160 7)(nb:b≠tb)(ng:g≠b)(a0:g≠tb):eN 133 #[P0 tb] w λw'=>Ln w' b o T N (eE E o<|dD g (n-1) c) (some<|az g 0) (n-1) c (xs.erase tb)/\Full w' tb 160 7 7 (eE (eE Tk 3<|.pointer none) 4 .nilFunc)/\dN (λk=>k=b\/k=tb\/k=g) w w':=by
 let⟨a3,aG⟩:=H.hE.cells o H.ho;let⟨c3,z3⟩:=hT.cells 3 af;let⟨c4,z4⟩:=hT.cells 4 af;rw[H.e]at a3;rw[Y]at c3;generalize Tk 4=y4 at c4;have le:=H.hE.lt;have lt:=hT.lt;have G:=H.len;have Z:xs.idxOf tb<n:=by rw[<-G];exact List.idxOf_lt_length_of_mem hm
 have a7:Hid (dC 183 #[dD g n c,P0 tb] w (ah (xs.idxOf tb:Nat)) λw'=>w'=w):=
  EC g c n tb xs w G.symm H.hn (λj x hx=>by
   have:=(ik H.row).2.2.2.2.2 j (P0 x) (by simp[hx]);exact this) hT.Ac hX hm
 have a8:Hid (∀w1:aa,w1.ownsRow 0 155 1 (dD g n c) n (xs.map P0)->dC 184 #[dD g n c,ah ((xs.idxOf tb:Nat):Int),ah<|((xs.idxOf tb:Nat):Int)+1] w1 (dD g (n-1) c) λw'=>w'.ownsRow 0 155 1 (dD g (n-1) c) (n-1) ((xs.erase tb).map P0)/\w1.grownBy w' (some g)):=λw1 h1=>by
  refine(EF g c n (xs.idxOf tb) 0 (xs.map P0) w1 h1 Z (λx hx=>?_) H.hn).mono ?_
  .obtain⟨y,_,rfl⟩:=eX.1 hx;rfl
  rintro e w' ⟨h2,h3,h4⟩;refine⟨h2,?_,h4⟩;rw[wM]at h3;rw[tn]at h3;exact h3
 change Hid _ at H Y Z;have HT:=bj hT;generalize xs.idxOf tb=ix at*;clear hT hm hX G;delta eN;go_in;go_wp2_with fail
 refine dq a7 ?_;rintro w1 rfl;have aD:ix<=1000000000:=by have:=Z.out;have:=H.hn;omega
 go_wp2_with fail
 have aJ:IntKind.i64.wrap ((ix:Int)+1)=(ix:Int)+1:=jf _ ⟨af,af⟩;go_region_with (first|(go_at_call 184;refine dq (a8 w1.drew<|dS H.row<|λ_ _=>rfl) ?_;rintro w2 ⟨a1,i⟩;have J:w1.grownBy w2 (some g):=⟨i.os,i.tape,i.output,i.size,i.block⟩;clear i;have a2:=bj a1;have a6:=bj J;have W:=bj<|H.hE.kept J<|λe=>ng e.symm;have u:=bj<|HT.kept J<|λe=>a0 e.symm;let⟨a5,aF⟩:=W.cells o H.ho;have aA:=a5.trans (by rw[H.e]);have aE:dW w2 tb 3=some (Pt b o):=(u.cell 3 af).trans (by rw[Y.out]);clear a1 J))
 all_goals
  let⟨d4,e4⟩:=u.cells 4 af;let⟨_,e3⟩:=u.cells 3 af;generalize Tk 4=y4 at d4;have aC:¬b=tb:=nb;go_wp2
  go_end0;have g1:=a0;have g2:g≠b:=ng;refine⟨rfl,{hE:=?_,ho:=H.ho,e:=gU _ _ _,row:=dS a2<|λk h=>?_,hn:=by have:=H.hn;omega},?_,?_⟩
  .exact((W.eE o _).off nb).off nb
  .have:k=g:=by injection h with h;exact h.symm
   subst this;show((World.setCell _ _ _).setCell _ _).heap[k]?=_;rw[ab _ _ _ _ g1,ab _ _ _ _ g1,ab _ _ _ _ g2]
  .exact((u.off<|λe=>nb e.symm).eE 3 _).eE 4 _
  exact bq (bq (bq (jL a6<|ak<|ak rfl) (ag<|ag rfl) _) (ag<|ak<|ag rfl) _) (ag<|ak<|ag rfl) _
def NN(w w':aa)(b o:Nat)(T:TypeId)(N:Nat)(E Tk:Nat->Value)(ad:Option Addr)(n c tb:Nat)(xs:List Nat):Prop:=
 ∃g c',Ln w' b o T N (eE E o<|.slice (some ⟨g,0,none⟩) (n+1) c') (some ⟨g,0,none⟩) (n+1) c' (xs++[tb])/\Full w' tb 160 7 7 (eE (eE Tk 2<|.bool false) 3<|Pt b o)/\dN (λk=>k=b\/k=tb\/(Value.slice ad n c).ownBlock=some k) w w'/\((Value.slice ad n c).ownBlock=some g\/w.heap.size<=g)
theorem BR(b o c n tb N:Nat)(T:TypeId)(ad:Option Addr)(E Tk:Nat->Value)(xs:List Nat)(R:aa->Prop)(w:aa)(nb:b≠tb)(nk:∀k,(Value.slice ad n c).ownBlock=some k->k≠b/\k≠tb)(aH:n<1000000000)(H:eN 133 #[P0 tb] w λw1=>Ln w1 b o T N E ad n c xs/\Full w1 tb 160 7 7 Tk/\R w1):eN 166 #[Pt b o,ah (n:Int),P0 tb] w λw'=>∃w1,R w1/\NN w1 w' b o T N E Tk ad n c tb xs:=by
 have HH:=bj H;have HK:=bj nk;clear H nk;delta eN;go_in;go_wp2_with fail
 refine dq HH ?_;rintro w1 ⟨hL,hT,hR⟩;let⟨a6,aD⟩:=hL.hE.cells o hL.ho;let⟨c2,z2⟩:=hT.cells 2 af;let⟨c3,z3⟩:=hT.cells 3 af;rw[hL.e]at a6;generalize Tk 2=y2 at c2;generalize Tk 3=y3 at c3;have le:=hL.hE.lt;have lt:=hT.lt;have W:=bj hL;have HT:=bj hT;have HR:=bj hR;have aF:¬tb=b:=λe=>nb e.symm;clear hL hT hR;go_wp2_with fail
 generalize u:((iA w1 tb 2<|.bool false).setCell (az tb 3)<|.pointer<|some<|az b o).alloc (.cells #[P0 tb] 155)=w2;have a8:w2.heap.size=w1.heap.size+1:=by rw[<-u];simp[World.setCell]
 have y:∀k,k≠tb->k<w1.heap.size->w2.heap[k]?=w1.heap[k]?:=λk hk aC=>by
  grind[Below.heap_alloc,World.setCell,Below.heap_setCell]
 have J:Ln w2 b o T N E ad n c xs:={hE:=W.hE.block<|y b nb le,ho:=W.ho,e:=W.e,row:=dS W.row<|λk hk=>y k (HK k hk).2 (dR W.row k hk).2.1,hn:=W.hn};have Y:Full w2 tb 160 7 7 (eE (eE Tk 2<|.bool false) 3<|Pt b o):=by
  rw[<-u];exact(((HT.eE 2 _).eE 3 _).block<|au _ _ _<|by simp_all)
 have a3:w2.cell? (az (fp w1) 0)=some (P0 tb):=by
  rw[<-u];have:=bl (iA (iA w1 tb 2<|.bool false) tb 3<|.pointer<|some<|az b o)<|.cells #[P0 tb] 155;simp only[World.setCell,Array.size_modify]at this;simp only[World.cell?,World.setCell];rw[this];rfl
 have a7:dN (λk=>k=b\/k=tb\/(Value.slice ad n c).ownBlock=some k) w1 w2:=by
  rw[<-u];exact gV (bq (bq (dx _ _) (ag<|ak<|ag rfl) _) (ag<|ak<|ag rfl) _) _
 refine(EL n 0 (fp w1) (P0 tb) (xs.map P0) rfl w2 ad c J.row a3 af af).mono ?_;rintro e w3 ⟨g,c',rfl,a2,i,a0⟩;have G:=J.hE.block<|i.block b J.hE.lt<|λh=>(HK b h.symm).1 rfl;have a4:=Y.block<|i.block tb Y.lt<|λh=>(HK tb h.symm).2 rfl;have a5:=
  a7.trans (S1:=λk=>(Value.slice ad n c).ownBlock=some k) ⟨i.os,i.tape,i.output,i.size,λk hk hn=>i.block k hk<|λe=>hn e.symm⟩ (λk h _=>ak<|ak h)
 have a1:g≠b/\g≠tb:=by
  rcases a0 with h|h
  .exact HK g h
  exact⟨af,af⟩
 let⟨aI,aG⟩:=G.cells o W.ho;have aB:=bj G;have aA:=bj a4;have aE:=bj a5;have Z:=bj<|bh a1<|bh a0 a8;have a9:Hid (w3.ownsRow 0 155 1 (dD g (n+1) c') (n+1)<|(xs++[tb]).map P0):=by
  show World.ownsRow _ _ _ _ _ _ _;simpa using a2
 clear u y J Y a3 a7 a2 i a0 G a4 a5 a1 a6 aD c2 z2 c3 z3;go_wp2_with fail
 go_end0;refine⟨rfl,w1,HR,g,c',{hE:=aB.eE o _,ho:=W.ho,e:=gU _ _ _,row:=dS a9<|λk h=>?_,hn:=by omega},aA.off<|λe=>nb e.symm,bq aE (ag<|ag rfl) _,?_⟩
 .have:k=g:=by injection h with h;exact h.symm
  subst this;exact ab _ _ _ _ Z.1.1
 rcases Z.2.1 with h|h
 .exact ag h
 exact ak af
theorem MT(b o c n tb N:Nat)(T:TypeId)(ad:Option Addr)(E Tk:Nat->Value)(xs:List Nat)(R:aa->Prop)(w:aa)(G:b≠tb)(u:∀k,(Value.slice ad n c).ownBlock=some k->k≠b/\k≠tb)(i:n<1000000000)(W:w.cell? (az b o)=some (.slice ad n c))(H:eN 133 #[P0 tb] w λw1=>Ln w1 b o T N E ad n c xs/\Full w1 tb 160 7 7 Tk/\R w1):eN 110 #[Pt b o,P0 tb] w λw'=>∃w1,R w1/\NN w1 w' b o T N E Tk ad n c tb xs:=by
 have y:=bj<|BR b o c n tb N T ad E Tk xs R w G u i H;delta eN;go_in;go_wp2_with fail
 refine dq y λw1 h=>?_;have J:=bj h;go_wp2
 go_end0;grind
theorem Mc(op a b c fb tb eb W o:Nat)(Tk:Nat->Value)(R:aa->Prop)(w:aa)(H:∀w1,w.grownBy w1 none->w1.heap[w.heap.size]?=some (jF op a b c fb tb eb)->eN 110 #[Pt W o,P0 tb] w1 λw2=>Full w2 tb 160 7 7 Tk/\w2.heap[w.heap.size]?=some (jF op a b c fb tb eb)/\R w2):eN 171 #[ee op a b c fb tb eb,Pt W o] w λw'=>∃w2,R w2/\Full w2 tb 160 7 7 Tk/\w2.heap[w.heap.size]?=some (jF op a b c fb tb eb)/\w'=w2.setCell (az tb 4) (Fv 207 #[P0 w.heap.size]):=by
 have HH:=bj H;delta eN;go_in;go_wp2_with fail
 refine dq (HH _ (bj<|aj w (.cells #[dz op,dz a,dz b,dz c,P0 fb,P0 tb,P0 eb] 186) none).out (bj<|iU w op a b c fb tb eb).out) ?_;rintro w2 ⟨u,i,hR⟩;let⟨x0,x1,x2,x3,x4,x5,x6⟩:=fe i;let⟨Y,z4⟩:=u.cells 4 af;generalize Z:Tk 4=y4 at Y;have G:=bj<|bh u<|bh i hR;go_wp2
 go_end0;grind
theorem L9(op a b c fb tb eb sx cb L nx rb nr:Nat)(back:Value)(Q:Nat->B.V)(v:B.V)(R:aa->Prop)(w:aa)(hx:w.heap[sx]?=some (jF op a b c fb tb eb))(hf:w.heap[fb]?=some (jG cb L nx rb nr back))(hr:Full w rb 149 (nr*2) (nr*2) (eR Q))(ha:a<nr)(le:eb<w.heap.size)(H:∀w1,w.grownBy w1 (some rb)->Full w1 rb 149 (nr*2) (nr*2) (eR<|B.set Q a v)->eN 110 #[Pt eb 32,P0 tb] w1 λw2=>R w2):eN 207 #[vA v,P0 sx] w λw'=>R w':=by
 let⟨x0,x1,x2,x3,x4,x5,x6⟩:=fe hx;have lx:=ch hx
 have a0:sx≠rb:=by
  rintro rfl;obtain⟨cu,q,_⟩:=hr;have J:w.heap[sx]?=ny #[dz (op:Int),dz (a:Int),dz (b:Int),dz (c:Int),P0 fb,P0 tb,P0 eb] 186:=hx;rw[q]at J;injection J with q2;injection q2 with _ q2 _;exact dr q2 eo
 have HH:=bj H;have HX:=bj hx;have HF:=bj hf;have HR:=bj hr;clear H hx hf hr;obtain⟨v1,v2⟩:=v;delta eN;go_in;go_wp2_with fail
 generalize hW:w.alloc (.cells #[ah (v1:Int),ah v2] 149)=w1;have Z:Hid (iY w w1):=by rw[<-hW];exact aj _ _ _
 refine dq (kU op a b c fb tb eb cb L nx rb nr back Q (v1,v2) w1 (dw Z HF) (HR.block<|Z.block rb HR.lt ey) ha) ?_;rintro w2 ⟨G,o⟩;have hG:=ar (m9 Z rb) G;have i:=da hG HX ey;let⟨y0,y1,y2,y3,y4,y5,y6⟩:=fe i;have HJ:Hid (∀W,iY w2 W->eN 110 #[Pt eb 32,P0 tb] W λw'=>R w'):=λW u=>HH W (ar hG<|m9 u rb)<|o.block<|u.block rb o.lt ey;clear G o hG i hW x0 x1 x2 x3 x4 x5 x6;go_wp2_with fail
 go_region_with (go_at_call 110;refine dq (HJ w2.drew<|bo<|aw _ _) λw4 y=>?_;have a1:=bj y;clear y)
 all_goals
  go_wp2_with fail
  go_end0;exact⟨rfl,a1⟩
def Aj(w:aa)(xb tb:Nat)(v:B.V):Prop:=w.heap[xb]?=some (.cells #[P0 tb] 155 (0,0))/\w.heap[xb+1]?=some (.cells #[.int .i64 (v.1:Int),.int .i64 v.2] 149 (0,0))
theorem KM(eb tb kind t n c:Nat)(x:Int)(v:B.V)(ad:Option Addr)(S1 S3:aa->Prop)(S2:Value->aa->Prop)(I:List Nat->aa->Prop)(sx:Nat->Nat)(xs:List Nat)(w:aa)(H1:∀w1,w.grownBy w1 none->Aj w1 w.heap.size tb v->eN 133 #[P0 tb] w1 λw2=>S1 w2)(aF:∀w1,S1 w1->Aj w1 w.heap.size tb v/\(∃Tk,Full w1 tb 160 7 7 Tk)/\(w1.setCell (az tb 2)<|.bool false).cell? (az eb 29)=some (.slice ad n c)/\eb<w1.heap.size)(H2:∀w1,S1 w1->Calls prog 209 #[.slice ad n c,Fv 210 #[P0 w.heap.size]] (w1.setCell (az tb 2)<|.bool false) λe w2=>∃a' n' Z,e=.returned (.slice a' n' Z)/\S2 (.slice a' n' Z) w2)(aH:∀lv w2,S2 lv w2->Aj (w2.setCell (az eb 29) lv) w.heap.size tb v/\(∃E,Full w2 eb 144 44 44 E)/\(w2.setCell (az eb 29) lv).cell? (az tb 0)=some (ah t)/\tb<w2.heap.size)(H3:∀lv w2 G,S2 lv w2->(w2.setCell (az eb 29) lv).grownBy G none->eN 211 #[P0 eb,ah t,vA v] G λi=>S3 i)(a8:∀G,S3 G->Aj G w.heap.size tb v)(H4:∀G,S3 G->eN 173 #[P0 eb,ah kind,P0 tb,ah x] G λi=>I xs i)(hI:∀ys i,I ys i->Aj i w.heap.size tb v/\tb<i.heap.size/\(∀Y,i.grownBy Y none->I ys Y)/\(ys=[]->∃a' Z,i.cell? (az tb 6)=some (.slice a' 0 Z))/\(∀y r,ys=y :: r->∃q Z,i.cell? (az tb 6)=some (dD q (r.length+1) Z)/\i.cell? (az q 0)=some (P0 y)/\i.cell? (az y 4)=some (Fv 207 #[P0<|sx y])/\y<i.heap.size))(HL:∀y r i,I (y :: r) i->eN 207 #[vA v,P0<|sx y] i λY=>I r Y):eN 175 #[P0 eb,P0 tb,vA v,ah kind,ah x] w λw'=>I [] w':=by
 change Hid _ at H1 aF H2 aH H3 a8 H4 hI HL;obtain⟨v1,v2⟩:=v;delta eN;go_in;go_wp2_with fail
 generalize a4:(w.alloc<|.cells #[P0 tb] 155).alloc (.cells #[ah v1,ah v2] 149)=w1;have aA:iY w w1:=by rw[<-a4];exact ax (ax (aw _ _) _) _
 have aG:Aj w1 (fp w) tb (v1,v2):=by
  rw[<-a4];constructor
  .rw[au _ _ _ eG];exact bl _ _
  have h1:=bl (gG w #[P0 tb] 155)<|.cells #[ah v1,ah v2] 149;have h2:(gG w #[P0 tb] 155).heap.size=w.heap.size+1:=eG
  rw[h2]at h1;exact h1
 have KX:=bj<|H1 w1 aA aG;clear a4 aA aG;refine dq KX λw2 a1=>?_;let⟨a7,⟨Tk,hT⟩,b9,b6⟩:=aF w2 a1;have x0:dW w2 (fp w) 0=some (P0 tb):=fj a7.1
 let⟨t2,z2⟩:=hT.cells 2 af;generalize Tk 2=y2 at t2;change Hid _ at a1;clear a7 hT;go_wp2_with fail
 refine(H2 w2 a1).mono ?_;rintro e G ⟨a',n',Z,rfl,a3⟩;let⟨aE,⟨E3,a0⟩,b3,aN⟩:=aH _ G a3;let⟨aI,aO⟩:=a0.cells 29 af;generalize E3 29=b4 at aI;change Hid _ at a3 aE;clear a0 x0 t2 z2;go_wp2_with fail
 generalize a5:G.setCell (az eb 29) (.slice a' n' Z)=i at*;have aP:i.heap.size=G.heap.size:=by rw[<-a5];simp[World.setCell]
 have x0:dW i (fp w) 0=some (P0 tb):=fj aE.1
 have x1:dW i (w.heap.size+1) 0=some (ah v1):=fj aE.2
 have x2:dW i (w.heap.size+1) 1=some (ah v2):=fj aE.2
 have aL:Hid (∀Y,iY i Y->eN 211 #[P0 eb,ah t,vA (v1,v2)] Y λw6=>S3 w6):=λY hg=>H3 _ G Y a3<|eZ a5 hg;clear a5 aP aI aO aN;go_wp2
 go_cut[] (λwx=>Hid<|S3 wx)
 case first=>
  go_region_with (go_at_call 211;refine dq (aL i.drew<|bo<|aw _ _) λw6 aB=>?_;have W:=bj aB;clear aB)
  all_goals
   go_wp2
   go_meet
   case rel=>exact W
 case rest=>
  have W:=hcut;have a6:=a8 wc W;have q0:dW wc (fp w) 0=some (P0 tb):=fj a6.1
  clear a6;go_wp2_with fail
  refine dq (H4 wc W) λw6 aD=>?_;change Hid _ at aD;clear q0 x0 x1 x2;go_wp2
  go_loopg [] (xs.length) (λn wr=>∃ys:List Nat,ys.length=n/\Hid (I ys wr))
  case atStart=>exact⟨xs,rfl,aD⟩
  case round=>
   obtain⟨ys,aK,rI⟩:=hrel;let⟨H,b5,a9,u,o⟩:=hI ys wr rI;have q0:dW wr (fp w) 0=some (P0 tb):=fj H.1
   have q1:dW wr (w.heap.size+1) 0=some (ah v1):=fj H.2
   have q2:dW wr (w.heap.size+1) 1=some (ah v2):=fj H.2
   have lq:=ch H.1;have b7:=ch H.2;change Hid _ at a9;clear H aD
   cases ys with
   |nil=>
    let⟨a2,c2,c6⟩:=u rfl;have hE:=gS tb 6 0 c2 a2 wr c6;simp only[decide_true]at hE;change Hid _ at hE;clear u o;go_wp2_with fail
    refine dq hE ?_;rintro w8 rfl;go_wp2
    go_end0;exact⟨rfl,rI⟩
   |cons y r=>
    let⟨q,c2,c6,cq,c4,ly⟩:=o y r rfl;have hE:=gS tb 6 (r.length+1) c2 (some<|az q 0) wr c6;have hd:decide ((r.length+1:Nat)=0)=false:=eG
    rw[hd]at hE;have hE:=bj hE;have aQ:=bj<|λ(w':aa) (h:dW w' tb 6=some (dD q (r.length+1) c2)) (h2:dW w' q 0=some (P0 y))=>qx tb 6 r.length c2 q y w' h h2;have aY:=bj<|λ(w':aa) (hg:iY wr w')=>HL y r w'<|a9 w' hg;clear hE hd u o;go_wp2_with fail
    refine dq hE ?_;rintro w8 rfl;go_wp2
    go_region_with (first|(go_at_call 132;refine(aQ _ ?_ ?_).mono ?_;exact c6;exact cq;rintro e w9 ⟨rfl,rfl⟩)|(go_at_call 207;refine dq (aY w8.drew<|bo<|aw _ _) λw9 aJ=>?_;have aT:=bj aJ;clear aJ))
    all_goals
     go_wp2
     go_roundg (r.length)
     case measure=>first|omega|(simp at aK;omega)
     case rel=>exact⟨r,rfl,aT⟩
theorem BM(x tb G:Nat)(w:aa)(h:w.cell? ⟨G,0,none⟩=some (P0 tb))(W:jQ w tb 160 7)(hX:jQ w x 160 7):Calls prog 210 #[P0 x,P0 G] w λe w'=>e=.returned (.bool (decide (x=tb)))/\w'=w:=by
 let⟨i0,hi,Y,o,H⟩:=info_parts Tryz.BW;by_cases i:x=tb
 .subst i;have J:=λ(w:aa)=>run_eql_ptr_same (P:=prog) (w:=w) (tp:=155) (te:=160) ⟨x,0,none⟩ underlying155 hi;go_in;go_wp2_with fail
  go_ret;simp_all
 obtain⟨ct,bt,_⟩:=W;obtain⟨Z,u,_⟩:=hX;have y:=run_eql_ptr_other (P:=prog) (w:=w) (tp:=155) (te:=160) (a:=⟨x,0,none⟩) (b:=⟨tb,0,none⟩) underlying155 hi af ey u bt;go_in;go_wp2_with fail
 go_ret;simp_all
theorem Mu(g c n tb Y:Nat)(xs:List Nat)(w:aa)(hn:n=xs.length)(a0:n<=1000000000)(Z:∀j x,xs[j]?=some x->w.cell? (az g j)=some (P0 x))(hx:w.cell? (az Y 0)=some (P0 tb))(hT:jQ w tb 160 7)(hX:∀x,x∈xs->jQ w x 160 7)(hm:tb∈xs):dC 205 #[dD g n c,Fv 210 #[P0 Y]] w (ah (xs.idxOf tb:Nat)) λw'=>w'=w:=by
 have W:=List.idxOf_lt_length_of_mem hm;have HC:=bj Z;have HT:=bj hT;have HX:=bj hX;have HL:=bj W;have HN:=bj hn;have HB:=bj hx;clear Z hT hX W hm hn hx;delta dC;go_in;go_wp2_with fail
 go_loopw[8] (λi wr=>∃j:Nat,i=ah j/\j<=xs.idxOf tb/\wr=w) (λi _=>xs.idxOf tb-(intOf i).toNat)
 case atStart=>grind
 case round=>
  obtain⟨j,rfl,hj,rfl⟩:=hrel;have a1:j<n:=by have:=HL.out;have:=HN.out;omega
  obtain⟨x,hx⟩:∃x,xs[j]?=some x:=⟨_,bw<|gD HN.out⟩;have cj:=HC j x hx;have H:=BM x tb Y wr HB HT<|HX x<|eh hx;have J:=bj H;clear H;by_cases y:j=xs.idxOf tb
  .have o:x=tb:=by
    have:=List.getElem_idxOf (x:=tb) HL;rw[cf]at hx;obtain⟨h1,h2⟩:=hx;subst y;rw[<-h2];exact this
   have HJ:=bj y;have u:=bj o;clear y o;go_wp2_with fail
   refine dq J ?_;rintro w1 rfl;have G:decide (x=tb)=true:=iE u.out
   simp only[G];clear G;go_wp2_with fail
   go_ret;exact⟨by simp[HJ.out],rfl⟩
  have o:x≠tb:=by
   intro e;subst e;have a2:=ti xs x j hx;omega
  have u:=bj o;clear o;go_wp2_with fail
  refine dq J ?_;rintro w1 rfl;have G:decide (x=tb)=false:=iE u.out
  simp only[G];clear G;go_wp2_with fail
  go_roundw
  case rel=>exact⟨j+1,iI,af,trivial⟩
  case measure=>simp[intOf];omega
def Pc(w wr:aa)(g c ix j:Nat)(xs:List Nat):Prop:=
 jQ wr g 155 c/\w.grownBy wr (some g)/\(∀p x,p+1<j->(xs.eraseIdx ix)[p]?=some x->wr.cell? ⟨g,p,none⟩=some (P0 x))/\(∀p x,j<=p->xs[p]?=some x->wr.cell? ⟨g,p,none⟩=some (P0 x))
theorem MC(g c n tb xb:Nat)(xs:List Nat)(w:aa)(a1:w.ownsRow 0 155 1 (dD g n c) n (xs.map P0))(aL:n<=1000000000)(aD:xs.Nodup)(hx:w.cell? (az xb 0)=some (P0 tb))(lx:xb<w.heap.size)(ng:xb≠g)(hT:jQ w tb 160 7)(hX:∀x,x∈xs->jQ w x 160 7)(hm:tb∈xs):dC 209 #[dD g n c,Fv 210 #[P0 xb]] w (dD g (n-1) c) λw'=>w'.ownsRow 0 155 1 (dD g (n-1) c) (n-1) ((xs.erase tb).map P0)/\w.grownBy w' (some g):=by
 let⟨hb,hc,a4,hl,hB,G⟩:=ik a1;have W:xs.length=n:=iE hl
 have a0:∀j x,xs[j]?=some x->dW w g j=some (P0 x):=λj x h=>G j (P0 x) (by simp[h]);have aS:xs.idxOf tb<n:=by rw[<-W];exact List.idxOf_lt_length_of_mem hm
 have aM:=bj<|Mu g c n tb xb xs w W.symm aL a0 hx hT hX hm;have a8:tb≠g:=by
  rintro rfl;obtain⟨c1,Z,_⟩:=hT;obtain⟨c2,o,_⟩:=hB;rw[Z]at o;injection o with o;injection o with _ o _;exact dr o eo
 have aC:∀x,x∈xs->x≠g:=λx Y=>by
  rintro rfl;let⟨c1,Z,_⟩:=hX x Y;obtain⟨c2,o,_⟩:=hB;grind
 have aH:Hid (∀wr,w.grownBy wr (some g)->∀x,x∈xs->dC 210 #[P0 x,P0 xb] wr (.bool (decide (x=tb))) λw'=>w'=wr):=λwr a2 x Y=>by
  refine BM x tb xb wr ?_ ?_ ?_
  .simp only[World.cell?]at hx⊢;rw[a2.block xb lx ey];exact hx
  .obtain⟨c1,Z,o⟩:=hT;exact⟨c1,(a2.block tb (ch Z) ey).trans Z,o⟩
  let⟨c1,Z,o⟩:=hX x Y;exact⟨c1,(a2.block x (ch Z) ey).trans Z,o⟩
 have a6:∀j,xs.idxOf tb<j->∀x,xs[j]?=some x->x≠tb:=λj hj x aN e=>by
  grind
 let⟨i0,hi,a9,aG,aE⟩:=info_parts Tryz.qu;have hv:∀w,(zeroValue 155).run prog w=.ok (.pointer none) w:=by intro w;simp[zeroValue,typeInfo,hi,a9]
 have a7:Hid (∀(ty:TypeId) (w1:aa) (c':Nat),jQ w1 g 155 c->(Builtin.clear_ #[136] ty #[.slice (some<|az g<|n-1) 1 c']).run prog w1=.ok (.tuple #[]) (iA w1 g (n-1)<|.pointer none)):=by
  intro ty w1 c' aA;refine Go.Lib.run_clear_slice (P:=prog) w1 136 155 ty (.pointer none) underlying136 hv rfl rfl g (n-1) 1 c' af ?_ ?_
  .intro j hj;let⟨⟨v,h⟩,_⟩:=aA.cell (n-1+j) af;grind
  intro j hj;exact(aA.cell (n-1+j) af).2
 have KD:Hid (Pc w w g c (xs.idxOf tb) (xs.idxOf tb+1) xs):=⟨hB,aw _ _,λp x hp hx=>by
   grind,λp x _ hx=>a0 p x hx⟩
 have aT:(n:Int)<=(c:Int):=af
 change Hid _ at a6 a4;have u:=bj W;have a3:=bj<|tn xs tb;clear a1 hl G a0 hx hT hX hm hB a8 aC aD hv hi a9 aG aE i0;generalize xs.idxOf tb=ix at*;delta dC;go_in;go_wp2_with fail
 refine dq aM ?_;rintro w1 rfl;go_wp2_with fail
 have a5:((ix:Int) == -1)=false:=lD dY
 try rw[a5]
 try simp only[a5]
 clear a5;go_loopw[5,6] (λi j wr=>∃J:Nat,i=ah (J:Nat)/\j=ah ((J:Int)+1)/\ix<=J/\J+1<=n/\Hid (Pc w1 wr g c ix (J+1) xs)) (λ_ j _=>n-(intOf j).toNat)
 case atStart=>exact⟨ix,rfl,iI,af,af,KD⟩
 case round=>
  obtain⟨J,rfl,rfl,aV,aR,rD⟩:=hrel;let⟨dB,dG,d1,d2⟩:=rD.out;by_cases aQ:J+1<n
  .have aB:(J:Int)+1<(n:Int):=af
   obtain⟨x,hx⟩:∃x,xs[J+1]?=some x:=⟨_,bw af⟩;have cj:=d2 (J+1) x (bm _) hx;have H:=aH wr dG x<|eh hx;have hd:decide (x=tb)=false:=by simpa using a6 (J+1) af x hx
   rw[hd]at H;change Hid _ at H hx;let⟨⟨y,cJ⟩,zJ⟩:=dB.cell J af;have lg:=dB.lt;clear hd dB dG d1 d2;go_wp2_with fail
   refine dq H ?_;rintro w2 rfl;have aP:Hid (Pc w1 (iA w2 g J<|P0 x) g c ix (J+2) xs):=by
    obtain⟨dB,dG,d1,d2⟩:=rD;refine⟨dB.set g J _,bu dG (ag rfl) _,λp z hp hz=>?_,λp z hp hz=>?_⟩
    .by_cases aK:p=J
     .subst aK;rw[List.getElem?_eraseIdx_of_ge af]at hz;rw[hx.out]at hz;injection hz with hz;subst hz;exact World.cell?_setCell_same _ _ _ cJ
     rw[dK _ _ _ _ Cm];exact d1 p z af hz
    rw[dK _ _ _ _ Cm];exact d2 p z af hz
   go_wp2
   go_roundw
   case rel=>exact⟨J+1,iI,iI,af,af,aP⟩
   case measure=>simp[intOf];omega
  have aB:¬(J:Int)+1<(n:Int):=af
  obtain rfl:n=J+1:=by omega
  have cl:∀(ty:TypeId) (c':Nat),(Builtin.clear_ #[136] ty #[.slice (some<|az g J) 1 c']).run prog wr=.ok (.tuple #[]) (iA wr g J<|.pointer none):=λty c'=>a7 ty wr c' dB;clear dB dG d1 d2;go_wp2
  go_ret;obtain⟨dB,dG,d1,d2⟩:=rD;refine⟨rfl,nT (di _) af a4 ?_ (dB.set g J _)<|λj y hy=>?_,bu dG (ag rfl) _⟩
  .rw[eD,<-a3.out,List.length_eraseIdx,bf<|lD u.out,u];omega
  have hj:j<J:=by
   have:=(cf.1 hy).1;rw[eD,<-a3.out,List.length_eraseIdx,bf<|lD u.out,u]at this;omega
  rw[fB]at hy;obtain⟨z,hz,rfl⟩:=Option.map_eq_some_iff.1 hy;rw[dK _ _ _ _ Cm];exact d1 j z af<|eZ a3.out hz
structure O0(w:aa) (eb:Nat) (clk:Int) (U:Nat->Int) (xs:List Nat):Prop where
 le:eb<w.heap.size
 PL:w.cell? ⟨eb,28,none⟩=some (.int .i64 clk)
 none_:xs=[]->∃ad c,w.cell? ⟨eb,33,none⟩=some (.slice ad 0 c)
 some_:∀x r,xs=x :: r->∃zb c,w.cell? ⟨eb,33,none⟩=some (.slice (some ⟨zb,0,none⟩) (r.length+1) c)/\w.cell? ⟨zb,0,none⟩=some (P0 x)/\w.cell? ⟨x,5,none⟩=some (.int .i64<|U x)/\x<w.heap.size
theorem Mb(eb:Nat)(clk:Int)(U:Nat->Int)(I:List Nat->aa->Prop)(xs:List Nat)(w:aa)(hI:I xs w)(HG:∀ys w1 w2,I ys w1->w1.grownBy w2 none->I ys w2)(HS:∀ys w1,I ys w1->O0 w1 eb clk U ys)(HJ:∀x r w1,I (x :: r) w1->U x<=clk->eN 110 #[Pt eb 32,P0 x] w1 λw'=>I r w'):eN 67 #[P0 eb] w λw'=>I (xs.dropWhile<|λx=>decide (U x<=clk)) w':=by
 have KI:=bj hI;have KG:=bj HG;have KS:=bj HS;have KJ:=bj HJ;clear hI HG HS HJ;delta eN;go_in;go_wp2_with fail
 go_loopg [] (xs.length) (λn wr=>∃ys:List Nat,ys.length=n/\Hid (I ys wr)/\Hid (ys.dropWhile (λx=>decide (U x<=clk))=xs.dropWhile (λx=>decide (U x<=clk))))
 case atStart=>exact⟨xs,rfl,KI,rfl⟩
 case round=>
  obtain⟨ys,Y,rI,rD⟩:=hrel;obtain⟨le,a2,o,u⟩:=KS ys wr rI
  cases ys with
  |nil=>
   obtain⟨ad,c,i⟩:=o rfl;have y:=λ(w':aa) (h:w'.cell? (az eb 33)=some (.slice ad 0 c))=>gS eb 33 0 c ad w' h;simp only[decide_true]at y;have Z:=bj y;clear y o u;go_wp2_with fail
   go_quiet (first|(go_at_call 70;refine Calls.quiet_of_same<|Z _<|by first|exact i|simpa using i))
   go_wp2_with fail
   go_end0;refine⟨rfl,?_⟩;have:=rD.out;rw[<-this];exact KG _ _ _ rI<|df (aw _ _) _
  |cons x r=>
   obtain⟨zb,c,i,J,c5,lx⟩:=u x r rfl;have y:=λ(w':aa) (h:w'.cell? (az eb 33)=some (dD zb (r.length+1) c))=>gS eb 33 (r.length+1) c (some<|az zb 0) w' h;have hd:decide ((r.length+1:Nat)=0)=false:=eG
   simp only[hd]at y;have hF:=λ(w':aa) (h:w'.cell? (az eb 33)=some (dD zb (r.length+1) c)) (h2:w'.cell? (az zb 0)=some (P0 x))=>qx eb 33 r.length c zb x w' h h2;have Z:=bj y;have G:=bj hF;clear y hF hd o u;by_cases H:U x<=clk
   .have a1:decide (U x<=clk)=true:=iE H
    have HU:=bj H;clear H;go_wp2_with fail
    go_quiet (first|(go_at_call 70;refine Calls.quiet_of_same<|Z _<|by first|exact i|simpa using i)|(go_at_call 132;refine Calls.quiet_of_same<|G _ (by first|exact i|simpa using i)<|by first|exact J|simpa using J))
    go_wp2_with fail
    go_region_with (first|(go_at_call 132;refine(G.out _ ?_ ?_).mono ?_;exact i;exact J;rintro e w2 ⟨rfl,rfl⟩)|(go_at_call 110;refine(KJ.out x r _ ?_ HU.out).mono ?_;exact KG.out _ _ _ rI.out<|bo<|df (aw _ _) _;rintro e w4 ⟨rfl,W⟩;have a0:=bj W;clear W))
    all_goals
     go_wp2_with fail
     go_roundg (r.length)
     case measure=>first|omega|(simp at Y;omega)
     case rel=>
      refine⟨r,rfl,a0,?_⟩;have:=rD.out;rw[List.dropWhile_cons_of_pos<|iE HU.out]at this;exact this
   have a1:decide (U x<=clk)=false:=iE H
   have HU:=bj H;clear H;go_wp2_with fail
   go_quiet (first|(go_at_call 70;refine Calls.quiet_of_same<|Z.out _<|by first|exact i|simpa using i)|(go_at_call 132;refine Calls.quiet_of_same<|G.out _ (by first|exact i|simpa using i)<|by first|exact J|simpa using J))
   go_wp2_with fail
   go_end0;refine⟨rfl,?_⟩;have:=rD.out;rw[<-this,List.dropWhile_cons_of_neg<|iE HU.out];exact KG.out _ _ _ rI.out<|df (aw _ _) _
