import Derived.Test.YtnjiinbhbjpfkaaGreatDoorKC
import Derived.Deep.LoopGhost
set_option maxRecDepth 100000
set_option maxHeartbeats 0
set_option linter.all false
namespace Go.Proofs.YtnjiinbhbjpfkaaGreatDoor
open Go.RowKit Go.Proofs.Tryz
section
theorem uv{α β:Type}(f:α->β):∀(xs:List α) (i:Nat),(xs.map f).eraseIdx i=(xs.eraseIdx i).map f
 | [],_=>rfl
 | _ :: _,0=>rfl
 | x :: xs,i+1=>by simp[uv f xs i]
theorem qt:∀(xs:List Nat) (x:Nat),xs.eraseIdx (xs.idxOf x)=xs.erase x
 | [],x=>rfl
 | y :: xs,x=>by
  rw[List.idxOf_cons,List.erase_cons];by_cases e:y=x
  .subst e;simp
  have i:(y == x)=false:=by simpa using e
  rw[i];simp[qt xs x]
structure Ln(w:World) (b o:Nat) (T:TypeId) (N:Nat) (E:Nat->Value) (ad:Option Addr) (n c:Nat) (xs:List Nat):Prop where
 hE:Full w b T N N E
 ho:o<N
 e:E o=.slice ad n c
 row:w.ownsRow 0 155 1 (.slice ad n c) n (xs.map P0)
 hn:n<=1000000000
theorem Ln.len{w:World}{b o:Nat}{T:TypeId}{N:Nat}{E:Nat->Value}{ad:Option Addr}{n c:Nat}{xs:List Nat}(h:Ln w b o T N E ad n c xs):xs.length=n:=by
 have:=h.row.1;simpa using this
theorem Cd(b o g c n tb N:Nat)(T:TypeId)(E Tk:Nat->Value)(xs:List Nat)(w:World)(H:Ln w b o T N E (some ⟨g,0,none⟩) n c xs)(hT:Full w tb 160 7 7 Tk)(Y:Tk 3=Pt b o)(hm:tb∈xs)(hX:∀x,x∈xs->jB w x 160 7)(nb:b≠tb)(ng:g≠b)(a0:g≠tb): Calls prog 133 #[P0 tb] w λe w'=>e=.returned (.tuple #[])/\Ln w' b o T N (ep E o (.slice (some ⟨g,0,none⟩) (n-1) c)) (some ⟨g,0,none⟩) (n-1) c (xs.erase tb)/\Full w' tb 160 7 7 (ep (ep Tk 3 (.pointer none)) 4 .nilFunc)/\dy (λk=>k=b\/k=tb\/k=g) w w':=by
 obtain⟨a3,aG⟩:=H.hE.cells o H.ho;obtain⟨c3,z3⟩:=hT.cells 3 (by omega);obtain⟨c4,z4⟩:=hT.cells 4 (by omega);rw[H.e]at a3;rw[Y]at c3;generalize Tk 4=y4 at c4;have le:=H.hE.lt;have lt:=hT.lt;have G:=H.len;have Z:xs.idxOf tb<n:=by rw[<-G];exact List.idxOf_lt_length_of_mem hm
 have a7:Hid (Calls prog 183 #[.slice (some ⟨g,0,none⟩) n c,P0 tb] w λe w'=>e=.returned (.int .i64 (xs.idxOf tb:Nat))/\w'=w):=
  Ck g c n tb xs w G.symm H.hn (λj x hx=>by
   have:=(iG H.row).2.2.2.2.2 j (P0 x) (by simp[hx]);exact this) hT.xV hX hm
 have a8:Hid (∀w1:World,w1.ownsRow 0 155 1 (.slice (some ⟨g,0,none⟩) n c) n (xs.map P0)->Calls prog 184 #[.slice (some ⟨g,0,none⟩) n c,.int .i64 ((xs.idxOf tb:Nat):Int),.int .i64 (((xs.idxOf tb:Nat):Int)+1)] w1 λe w'=>e=.returned (.slice (some ⟨g,0,none⟩) (n-1) c)/\w'.ownsRow 0 155 1 (.slice (some ⟨g,0,none⟩) (n-1) c) (n-1) ((xs.erase tb).map P0)/\w1.grownBy w' (some g)):=λw1 h1=>by
  refine(Cn g c n (xs.idxOf tb) 0 (xs.map P0) w1 h1 Z (λx hx=>?_) H.hn).mono ?_
  .obtain⟨y,_,rfl⟩:=ek.1 hx;rfl
  rintro e w' ⟨h2,h3,h4⟩;refine⟨h2,?_,h4⟩;rw[uv]at h3;rw[qt]at h3;exact h3
 have HL:=az H;have HT:Hid (Full w tb 160 7 7 Tk):=hT;have a4:=az Y;have a9:=az Z;generalize xs.idxOf tb=ix at *;clear H hT Y hm hX G Z;go_in;go_wp2_with fail
 refine a7.out.mono ?_;rintro e w1 ⟨rfl,rfl⟩;have aD:ix<=1000000000:=by have:=a9.out;have:=HL.out.hn;omega
 go_wp2_with fail
 have aJ:IntKind.i64.wrap ((ix:Int)+1)=(ix:Int)+1:=nS _ ⟨by omega,by omega⟩;go_region_with (first|(go_at_call 184;refine(a8.out w1.drew (dD HL.out.row (λ_ _=>rfl))).mono ?_;rintro e w2 ⟨rfl,a1,i⟩;have J:w1.grownBy w2 (some g):=⟨i.os,i.tape,i.output,i.size,i.block⟩;clear i;have a2:Hid (w2.ownsRow 0 155 1 (.slice (some ⟨g,0,none⟩) (n-1) c) (n-1) ((xs.erase tb).map P0)):=a1;have a6:Hid (w1.grownBy w2 (some g)):=J;have W:=az (HL.out.hE.kept J (λe=>ng e.symm));have u:Hid (Full w2 tb 160 7 7 Tk):=HT.out.kept J (λe=>a0 e.symm);obtain⟨a5,aF⟩:=W.out.cells o HL.out.ho;have aA:=a5.trans (by rw[HL.out.e]);have aE:w2.cell? ⟨tb,3,none⟩=some (Pt b o):=(u.out.cell 3 (by omega)).trans (by rw[a4.out]);clear a1 J))
 all_goals
  obtain⟨d4,e4⟩:=u.out.cells 4 (by omega);obtain⟨_,e3⟩:=u.out.cells 3 (by omega);generalize Tk 4=y4 at d4;have aC:¬b=tb:=nb;go_wp2_with fail
  go_end0;have g1:=a0;have g2:g≠b:=ng;refine⟨rfl,{ hE:=?_,ho:=HL.out.ho,e:=gf _ _ _,row:=dD a2.out (λk h=>?_),hn:=by have:=HL.out.hn;omega },?_,?_⟩
  .exact((W.out.ep o _).off nb).off nb
  .have:k=g:=by injection h with h;exact h.symm
   subst this;show((World.setCell _ _ _).setCell _ _).heap[k]? = _;rw[af _ _ _ _ g1,af _ _ _ _ g1,af _ _ _ _ g2]
  .exact((u.out.off (λe=>nb e.symm)).ep 3 _).ep 4 _
  exact bm (bm (bm (jg a6.out (ab (ab rfl))) (ag (ag rfl)) _) (ag (ab (ag rfl))) _) (ag (ab (ag rfl))) _
def Ie(bs:List Nat):List Value:=bs.map (λ(x:Nat)=>Value.int .u8 (x:Int))
def Kc(w w':World)(b o:Nat)(T:TypeId)(N:Nat)(E Tk:Nat->Value)(ad:Option Addr)(n c tb:Nat)(xs:List Nat):Prop:=
 ∃g c',Ln w' b o T N (ep E o (.slice (some ⟨g,0,none⟩) (n+1) c')) (some ⟨g,0,none⟩) (n+1) c' (xs++[tb])/\Full w' tb 160 7 7 (ep (ep Tk 2 (.bool false)) 3 (Pt b o))/\dy (λk=>k=b\/k=tb\/(Value.slice ad n c).ownBlock=some k) w w'/\((Value.slice ad n c).ownBlock=some g\/w.heap.size<=g)
theorem E6(b o c n tb N:Nat)(T:TypeId)(ad:Option Addr)(E Tk:Nat->Value)(xs:List Nat)(R:World->Prop)(w:World)(nb:b≠tb)(nk:∀k,(Value.slice ad n c).ownBlock=some k->k≠b/\k≠tb)(aH:n<1000000000)(H:Calls prog 133 #[P0 tb] w λe w1=>e=.returned (.tuple #[])/\Ln w1 b o T N E ad n c xs/\Full w1 tb 160 7 7 Tk/\R w1): Calls prog 166 #[Pt b o,.int .i64 (n:Int),P0 tb] w λe w'=>e=.returned (.tuple #[])/\∃w1,R w1/\Kc w1 w' b o T N E Tk ad n c tb xs:=by
 have HH:=az H;have HK:=az nk;clear H nk;go_in;go_wp2_with fail
 refine HH.out.mono ?_;rintro e w1 ⟨rfl,hL,hT,hR⟩;obtain⟨a6,aD⟩:=hL.hE.cells o hL.ho;obtain⟨c2,z2⟩:=hT.cells 2 (by omega);obtain⟨c3,z3⟩:=hT.cells 3 (by omega);rw[hL.e]at a6;generalize Tk 2=y2 at c2;generalize Tk 3=y3 at c3;have le:=hL.hE.lt;have lt:=hT.lt;have W:=az hL;have HT:=az hT;have HR:=az hR;have aF:¬tb=b:=λe=>nb e.symm;clear hL hT hR;go_wp2_with fail
 generalize u:((w1.setCell ⟨tb,2,none⟩ (.bool false)).setCell ⟨tb,3,none⟩ (.pointer (some ⟨b,o,none⟩))).alloc (.cells #[P0 tb] 155)=w2;have a8:w2.heap.size=w1.heap.size+1:=by rw[<-u];simp[World.setCell]
 have y:∀k,k≠tb->k<w1.heap.size->w2.heap[k]? = w1.heap[k]?:=λk hk aC=>by
  rw[<-u,ak _ _ _ (by simp[World.setCell];exact aC),af _ _ _ _ hk,af _ _ _ _ hk]
 have J:Ln w2 b o T N E ad n c xs:={ hE:=W.out.hE.block (y b nb le),ho:=W.out.ho,e:=W.out.e,row:=dD W.out.row (λk hk=>y k (HK.out k hk).2 (dA W.out.row k hk).2.1),hn:=W.out.hn };have Y:Full w2 tb 160 7 7 (ep (ep Tk 2 (.bool false)) 3 (Pt b o)):=by
  rw[<-u];exact(((HT.out.ep 2 _).ep 3 _).block (ak _ _ _ (by simp[World.setCell];exact lt)))
 have a3:w2.cell? ⟨w1.heap.size,0,none⟩=some (P0 tb):=by
  rw[<-u];have:=bf ((w1.setCell ⟨tb,2,none⟩ (.bool false)).setCell ⟨tb,3,none⟩ (.pointer (some ⟨b,o,none⟩))) (.cells #[P0 tb] 155);simp only[World.setCell,Array.size_modify]at this;simp only[World.cell?,World.setCell];rw[this];rfl
 have a7:dy (λk=>k=b\/k=tb\/(Value.slice ad n c).ownBlock=some k) w1 w2:=by
  rw[<-u];exact gF (bm (bm (dk _ _) (ag (ab (ag rfl))) _) (ag (ab (ag rfl))) _) _
 refine(Co n 0 w1.heap.size (P0 tb) (xs.map P0) rfl w2 ad c J.row a3 (by omega) (by omega)).mono ?_;rintro e w3 ⟨g,c',rfl,a2,i,a0⟩;have G:=J.hE.block (i.block b J.hE.lt (λh=>(HK.out b h.symm).1 rfl));have a4:=Y.block (i.block tb Y.lt (λh=>(HK.out tb h.symm).2 rfl));have a5:=
  a7.trans (S1:=λk=>(Value.slice ad n c).ownBlock=some k) ⟨i.os,i.tape,i.output,i.size,λk hk hn=>i.block k hk (λe=>hn e.symm)⟩ (λk h _=>ab (ab h))
 have a1:g≠b/\g≠tb:=by
  rcases a0 with h|h
  .exact HK.out g h
  exact⟨by omega,by omega⟩
 obtain⟨aI,aG⟩:=G.cells o W.out.ho;have aB:=az G;have aA:=az a4;have aE:=az a5;have Z:=az (ay a1 (ay a0 a8));have a9:Hid (w3.ownsRow 0 155 1 (.slice (some ⟨g,0,none⟩) (n+1) c') (n+1) ((xs++[tb]).map P0)):=by
  show World.ownsRow _ _ _ _ _ _ _;simpa using a2
 clear u y J Y a3 a7 a2 i a0 G a4 a5 a1 a6 aD c2 z2 c3 z3;go_wp2_with fail
 go_end0;refine⟨rfl,w1,HR.out,g,c',{ hE:=aB.out.ep o _,ho:=W.out.ho,e:=gf _ _ _,row:=dD a9.out (λk h=>?_),hn:=by omega },aA.out.off (λe=>nb e.symm),bm aE.out (ag (ag rfl)) _,?_⟩
 .have:k=g:=by injection h with h;exact h.symm
  subst this;exact af _ _ _ _ Z.out.1.1
 rcases Z.out.2.1 with h|h
 .exact ag h
 exact ab (by omega)
theorem Jr(b o c n tb N:Nat)(T:TypeId)(ad:Option Addr)(E Tk:Nat->Value)(xs:List Nat)(R:World->Prop)(w:World)(G:b≠tb)(u:∀k,(Value.slice ad n c).ownBlock=some k->k≠b/\k≠tb)(i:n<1000000000)(W:w.cell? ⟨b,o,none⟩=some (.slice ad n c))(H:Calls prog 133 #[P0 tb] w λe w1=>e=.returned (.tuple #[])/\Ln w1 b o T N E ad n c xs/\Full w1 tb 160 7 7 Tk/\R w1): Calls prog 110 #[Pt b o,P0 tb] w λe w'=>e=.returned (.tuple #[])/\∃w1,R w1/\Kc w1 w' b o T N E Tk ad n c tb xs:=by
 have y:=az (E6 b o c n tb N T ad E Tk xs R w G u i H);go_in;go_wp2_with fail
 refine y.out.mono ?_;rintro e w1 ⟨rfl,h⟩;have J:=az h;go_wp2_with fail
 go_end0;exact⟨rfl,J.out⟩
theorem zX(x tb G:Nat)(w:World)(h:w.cell? ⟨G,0,none⟩=some (P0 tb))(W:jB w tb 160 7)(hX:jB w x 160 7): Calls prog 210 #[P0 x,P0 G] w λe w'=>e=.returned (.bool (decide (x=tb)))/\w'=w:=by
 obtain⟨i0,hi,Y,o,H⟩:=info_parts Tryz.Ad;by_cases i:x=tb
 .subst i;have J:=λ(w:World)=>run_eql_ptr_same (P:=prog) (w:=w) (tp:=155) (te:=160) ⟨x,0,none⟩ underlying155 hi;go_in;go_wp2_with fail
  go_ret;exact⟨by simp,rfl⟩
 obtain⟨ct,bt,_⟩:=W;obtain⟨Z,u,_⟩:=hX;have y:=run_eql_ptr_other (P:=prog) (w:=w) (tp:=155) (te:=160) (a:=⟨x,0,none⟩) (b:=⟨tb,0,none⟩) underlying155 hi (by rw[o];decide) (by intro e;injection e with e;exact i e) u bt;go_in;go_wp2_with fail
 go_ret;exact⟨by simp[i],rfl⟩
theorem I2(g c n tb Y:Nat)(xs:List Nat)(w:World)(hn:n=xs.length)(a0:n<=1000000000)(Z:∀j x,xs[j]? = some x->w.cell? ⟨g,j,none⟩=some (P0 x))(hx:w.cell? ⟨Y,0,none⟩=some (P0 tb))(hT:jB w tb 160 7)(hX:∀x,x∈xs->jB w x 160 7)(hm:tb∈xs): Calls prog 205 #[.slice (some ⟨g,0,none⟩) n c,Fv 210 #[P0 Y]] w λe w'=>e=.returned (.int .i64 (xs.idxOf tb:Nat))/\w'=w:=by
 have W:=List.idxOf_lt_length_of_mem hm;have HC:=az Z;have HT:=az hT;have HX:=az hX;have HL:=az W;have HN:=az hn;have HB:=az hx;clear Z hT hX W hm hn hx;go_in;go_wp2_with fail
 go_loopw [8] (λi wr=>∃j:Nat,i=.int .i64 j/\j<=xs.idxOf tb/\wr=w) (λi _=>xs.idxOf tb-(intOf i).toNat)
 case atStart=>exact⟨0,rfl,by omega,rfl⟩
 case round=>
  obtain⟨j,rfl,hj,rfl⟩:=hrel;have a1:j<n:=by have:=HL.out;have:=HN.out;omega
  obtain⟨x,hx⟩:∃x,xs[j]? = some x:=⟨_,bn (by have:=HN.out;omega)⟩;have cj:=HC.out j x hx;have H:=zX x tb Y wr HB.out HT.out (HX.out x (ed hx));have J:=az H;clear H;by_cases y:j=xs.idxOf tb
  .have o:x=tb:=by
    have:=List.getElem_idxOf (x:=tb) HL.out;rw[bu]at hx;obtain⟨h1,h2⟩:=hx;subst y;rw[<-h2];exact this
   have HJ:=az y;have u:=az o;clear y o;go_wp2_with fail
   refine J.out.mono ?_;rintro e w1 ⟨rfl,rfl⟩;have G:decide (x=tb)=true:=by simpa using u.out
   simp only[G];clear G;go_wp2_with fail
   go_ret;exact⟨by simp[HJ.out],rfl⟩
  have o:x≠tb:=by
   intro e;subst e;have a2:=qm xs x j hx;omega
  have u:=az o;clear o;go_wp2_with fail
  refine J.out.mono ?_;rintro e w1 ⟨rfl,rfl⟩;have G:decide (x=tb)=false:=by simpa using u.out
  simp only[G];clear G;go_wp2_with fail
  go_roundw
  case rel=>exact⟨j+1,by go_num,by omega,trivial⟩
  case measure=>simp[intOf];omega
def LP(w wr:World)(g c ix j:Nat)(xs:List Nat):Prop:=
 jB wr g 155 c/\w.grownBy wr (some g)/\(∀p x,p+1<j->(xs.eraseIdx ix)[p]? = some x->wr.cell? ⟨g,p,none⟩=some (P0 x))/\(∀p x,j<=p->xs[p]? = some x->wr.cell? ⟨g,p,none⟩=some (P0 x))
theorem I9(g c n tb xb:Nat)(xs:List Nat)(w:World)(a1:w.ownsRow 0 155 1 (.slice (some ⟨g,0,none⟩) n c) n (xs.map P0))(aL:n<=1000000000)(aD:xs.Nodup)(hx:w.cell? ⟨xb,0,none⟩=some (P0 tb))(lx:xb<w.heap.size)(ng:xb≠g)(hT:jB w tb 160 7)(hX:∀x,x∈xs->jB w x 160 7)(hm:tb∈xs): Calls prog 209 #[.slice (some ⟨g,0,none⟩) n c,Fv 210 #[P0 xb]] w λe w'=>e=.returned (.slice (some ⟨g,0,none⟩) (n-1) c)/\w'.ownsRow 0 155 1 (.slice (some ⟨g,0,none⟩) (n-1) c) (n-1) ((xs.erase tb).map P0)/\w.grownBy w' (some g):=by
 obtain⟨hb,hc,a4,hl,hB,G⟩:=iG a1;have W:xs.length=n:=by simpa using hl
 have a0:∀j x,xs[j]? = some x->w.cell? ⟨g,j,none⟩=some (P0 x):=λj x h=>G j (P0 x) (by simp[h]);have aS:xs.idxOf tb<n:=by rw[<-W];exact List.idxOf_lt_length_of_mem hm
 have aM:=az (I2 g c n tb xb xs w W.symm aL a0 hx hT hX hm);have a8:tb≠g:=by
  rintro rfl;obtain⟨c1,Z,_⟩:=hT;obtain⟨c2,o,_⟩:=hB;rw[Z]at o;injection o with o;injection o with _ o _;exact ch o (by decide)
 have aC:∀x,x∈xs->x≠g:=λx Y=>by
  rintro rfl;obtain⟨c1,Z,_⟩:=hX x Y;obtain⟨c2,o,_⟩:=hB;rw[Z]at o;injection o with o;injection o with _ o _;exact ch o (by decide)
 have aH:Hid (∀wr,w.grownBy wr (some g)->∀x,x∈xs->Calls prog 210 #[P0 x,P0 xb] wr λe w'=>e=.returned (.bool (decide (x=tb)))/\w'=wr):=λwr a2 x Y=>by
  refine zX x tb xb wr ?_ ?_ ?_
  .simp only[World.cell?]at hx ⊢;rw[a2.block xb lx (by intro e;injection e with e;exact ng e)];exact hx
  .obtain⟨c1,Z,o⟩:=hT;exact⟨c1,(a2.block tb (bz Z) (by intro e;injection e with e;exact a8 e)).trans Z,o⟩
  obtain⟨c1,Z,o⟩:=hX x Y;exact⟨c1,(a2.block x (bz Z) (by intro e;injection e with e;exact aC x Y e)).trans Z,o⟩
 have a6:∀j,xs.idxOf tb<j->∀x,xs[j]? = some x->x≠tb:=λj hj x aN e=>by
  subst e;obtain⟨h1,h2⟩:=bu.1 aN;have:=(List.getElem_inj (h₀:=h1) (h₁:=List.idxOf_lt_length_of_mem hm) aD).1 (h2.trans (List.getElem_idxOf (x:=x) (List.idxOf_lt_length_of_mem hm)).symm);omega
 obtain⟨i0,hi,a9,aG,aE⟩:=info_parts Tryz.rA;have hv:∀w,(zeroValue 155).run prog w=.ok (.pointer none) w:=by intro w;simp[zeroValue,typeInfo,hi,a9]
 have a7:Hid (∀(ty:TypeId) (w1:World) (c':Nat),jB w1 g 155 c->(Builtin.clear_ #[136] ty #[.slice (some ⟨g,n-1,none⟩) 1 c']).run prog w1=.ok (.tuple #[]) (w1.setCell ⟨g,n-1,none⟩ (.pointer none))):=by
  intro ty w1 c' aA;refine Go.Lib.run_clear_slice (P:=prog) w1 136 155 ty (.pointer none) underlying136 hv rfl rfl g (n-1) 1 c' (by omega) ?_ ?_
  .intro j hj;obtain⟨⟨v,h⟩,_⟩:=aA.cell (n-1+j) (by omega);rw[h];rfl
  intro j hj;exact(aA.cell (n-1+j) (by omega)).2
 have KD:Hid (LP w w g c (xs.idxOf tb) (xs.idxOf tb+1) xs):=⟨hB,ax _ _,λp x hp hx=>by
   rw[List.getElem?_eraseIdx_of_lt (by omega)]at hx;exact a0 p x hx,λp x _ hx=>a0 p x hx⟩
 have aT:(n:Int)<=(c:Int):=by omega
 have aJ:=az a6;have aI:=az a4;have u:=az W;have a3:=az (qt xs tb);clear a1 hl G a0 hx hT hX hm hB a4 a8 aC a6 aD hv hi a9 aG aE i0;generalize xs.idxOf tb=ix at *;go_in;go_wp2_with fail
 refine aM.out.mono ?_;rintro e w1 ⟨rfl,rfl⟩;go_wp2_with fail
 have a5:((ix:Int) == -1)=false:=by rw[dK];omega
 try rw[a5]
 try simp only[a5]
 clear a5;go_loopw [5,6] (λi j wr=>∃J:Nat,i=.int .i64 (J:Nat)/\j=.int .i64 ((J:Int)+1)/\ix<=J/\J+1<=n/\Hid (LP w1 wr g c ix (J+1) xs)) (λ_ j _=>n-(intOf j).toNat)
 case atStart=>exact⟨ix,rfl,by go_num,by omega,by omega,KD⟩
 case round=>
  obtain⟨J,rfl,rfl,aV,aR,rD⟩:=hrel;obtain⟨dB,dG,d1,d2⟩:=rD.out;by_cases aQ:J+1<n
  .have aB:(J:Int)+1<(n:Int):=by omega
   obtain⟨x,hx⟩:∃x,xs[J+1]? = some x:=⟨_,bn (by omega)⟩;have cj:=d2 (J+1) x (bj _) hx;have H:=aH.out wr dG x (ed hx);have hd:decide (x=tb)=false:=by simpa using aJ.out (J+1) (by omega) x hx
   rw[hd]at H;have aF:=az H;obtain⟨⟨y,cJ⟩,zJ⟩:=dB.cell J (by omega);have lg:=dB.lt;have aO:=az hx;clear H hd hx dB dG d1 d2;go_wp2_with fail
   refine aF.out.mono ?_;rintro e w2 ⟨rfl,rfl⟩;have aP:Hid (LP w1 (w2.setCell ⟨g,J,none⟩ (P0 x)) g c ix (J+2) xs):=by
    obtain⟨dB,dG,d1,d2⟩:=rD.out;refine⟨dB.set g J _,bp dG (ag rfl) _,λp z hp hz=>?_,λp z hp hz=>?_⟩
    .by_cases aK:p=J
     .subst aK;rw[List.getElem?_eraseIdx_of_ge (by omega)]at hz;rw[aO.out]at hz;injection hz with hz;subst hz;exact World.cell?_setCell_same _ _ _ cJ
     rw[dF _ _ _ _ (by intro e;injection e with _ e;omega)];exact d1 p z (by omega) hz
    rw[dF _ _ _ _ (by intro e;injection e with _ e;omega)];exact d2 p z (by omega) hz
   go_wp2_with fail
   go_roundw
   case rel=>exact⟨J+1,by go_num,by go_num,by omega,by omega,aP⟩
   case measure=>simp[intOf];omega
  have aB:¬(J:Int)+1<(n:Int):=by omega
  obtain rfl:n=J+1:=by omega
  have cl:∀(ty:TypeId) (c':Nat),(Builtin.clear_ #[136] ty #[.slice (some ⟨g,J,none⟩) 1 c']).run prog wr=.ok (.tuple #[]) (wr.setCell ⟨g,J,none⟩ (.pointer none)):=λty c'=>a7.out ty wr c' dB;clear dB dG d1 d2;go_wp2_with fail
  go_ret;obtain⟨dB,dG,d1,d2⟩:=rD.out;refine⟨rfl,qf (dc _) (by omega) aI.out ?_ (dB.set g J _) (λj y hy=>?_),bp dG (ag rfl) _⟩
  .rw[dS,<-a3.out,List.length_eraseIdx,aj (by rw[u.out];omega),u.out];omega
  have hj:j<J:=by
   have:=(bu.1 hy).1;rw[dS,<-a3.out,List.length_eraseIdx,aj (by rw[u.out];omega),u.out]at this;omega
  rw[eo]at hy;obtain⟨z,hz,rfl⟩:=Option.map_eq_some_iff.1 hy;rw[dF _ _ _ _ (by intro e;injection e with _ e;omega)];exact d1 j z (by omega) (by rw[a3.out];exact hz)
structure LD(w:World) (eb:Nat) (eY:Int) (U:Nat->Int) (xs:List Nat):Prop where
 le:eb<w.heap.size
 Mz:w.cell? ⟨eb,28,none⟩=some (.int .i64 eY)
 none_:xs=[]->∃ad c,w.cell? ⟨eb,33,none⟩=some (.slice ad 0 c)
 some_:∀x r,xs=x :: r->∃zb c,w.cell? ⟨eb,33,none⟩=some (.slice (some ⟨zb,0,none⟩) (r.length+1) c)/\w.cell? ⟨zb,0,none⟩=some (P0 x)/\w.cell? ⟨x,5,none⟩=some (.int .i64 (U x))/\x<w.heap.size
theorem IH(eb:Nat)(eY:Int)(U:Nat->Int)(I:List Nat->World->Prop)(xs:List Nat)(w:World)(hI:I xs w)(HG:∀ys w1 w2,I ys w1->w1.grownBy w2 none->I ys w2)(HS:∀ys w1,I ys w1->LD w1 eb eY U ys)(HJ:∀x r w1,I (x :: r) w1->U x<=eY->Calls prog 110 #[Pt eb 32,P0 x] w1 λe w'=>e=.returned (.tuple #[])/\I r w'): Calls prog 67 #[P0 eb] w λe w'=>e=.returned (.tuple #[])/\I (xs.dropWhile (λx=>decide (U x<=eY))) w':=by
 have KI:=az hI;have KG:=az HG;have KS:=az HS;have KJ:=az HJ;clear hI HG HS HJ;go_in;go_wp2_with fail
 go_loopg [] (xs.length) (λn wr=>∃ys:List Nat,ys.length=n/\Hid (I ys wr)/\Hid (ys.dropWhile (λx=>decide (U x<=eY))=xs.dropWhile (λx=>decide (U x<=eY))))
 case atStart=>exact⟨xs,rfl,KI,rfl⟩
 case round=>
  obtain⟨ys,Y,rI,rD⟩:=hrel;obtain⟨le,a2,o,u⟩:=KS.out ys wr rI.out
  cases ys with
  | nil=>
   obtain⟨ad,c,i⟩:=o rfl;have y:=λ(w':World) (h:w'.cell? ⟨eb,33,none⟩=some (.slice ad 0 c))=>gP eb 33 0 c ad w' h;simp only[decide_true]at y;have Z:=az y;clear y o u;go_wp2_with fail
   go_quiet (first|(go_at_call 70;refine Calls.quiet_of_same (Z.out _ (by first|exact i|simpa using i))))
   go_wp2_with fail
   go_end0;refine⟨rfl,?_⟩;have:=rD.out;rw[<-this];exact KG.out _ _ _ rI.out (db (ax _ _) _)
  | cons x r=>
   obtain⟨zb,c,i,J,c5,lx⟩:=u x r rfl;have y:=λ(w':World) (h:w'.cell? ⟨eb,33,none⟩=some (.slice (some ⟨zb,0,none⟩) (r.length+1) c))=>gP eb 33 (r.length+1) c (some ⟨zb,0,none⟩) w' h;have hd:decide ((r.length+1:Nat)=0)=false:=by simp
   simp only[hd]at y;have hF:=λ(w':World) (h:w'.cell? ⟨eb,33,none⟩=some (.slice (some ⟨zb,0,none⟩) (r.length+1) c)) (h2:w'.cell? ⟨zb,0,none⟩=some (P0 x))=>qq eb 33 r.length c zb x w' h h2;have Z:=az y;have G:=az hF;clear y hF hd o u;by_cases H:U x<=eY
   .have a1:decide (U x<=eY)=true:=by simpa using H
    have HU:=az H;clear H;go_wp2_with fail
    go_quiet (first|(go_at_call 70;refine Calls.quiet_of_same (Z.out _ (by first|exact i|simpa using i)))|(go_at_call 132;refine Calls.quiet_of_same (G.out _ (by first|exact i|simpa using i) (by first|exact J|simpa using J))))
    go_wp2_with fail
    go_region_with (first|(go_at_call 132;refine(G.out _ ?_ ?_).mono ?_;exact i;exact J;rintro e w2 ⟨rfl,rfl⟩)|(go_at_call 110;refine(KJ.out x r _ ?_ HU.out).mono ?_;exact KG.out _ _ _ rI.out (bq (db (ax _ _) _));rintro e w4 ⟨rfl,W⟩;have a0:=az W;clear W))
    all_goals
     go_wp2_with fail
     go_roundg (r.length)
     case measure=>first|omega|(simp at Y;omega)
     case rel=>
      refine⟨r,rfl,a0,?_⟩;have:=rD.out;rw[List.dropWhile_cons_of_pos (by simpa using HU.out)]at this;exact this
   have a1:decide (U x<=eY)=false:=by simpa using H
   have HU:=az H;clear H;go_wp2_with fail
   go_quiet (first|(go_at_call 70;refine Calls.quiet_of_same (Z.out _ (by first|exact i|simpa using i)))|(go_at_call 132;refine Calls.quiet_of_same (G.out _ (by first|exact i|simpa using i) (by first|exact J|simpa using J))))
   go_wp2_with fail
   go_end0;refine⟨rfl,?_⟩;have:=rD.out;rw[<-this,List.dropWhile_cons_of_neg (by simpa using HU.out)];exact KG.out _ _ _ rI.out (db (ax _ _) _)
