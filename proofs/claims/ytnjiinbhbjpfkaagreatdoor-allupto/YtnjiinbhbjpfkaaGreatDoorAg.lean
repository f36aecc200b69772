import Derived.Test.YtnjiinbhbjpfkaaGreatDoorAZ
import Derived.Test.YtnjiinbhbjpfkaaGreatDoorAe
import Derived.Test.YtnjiinbhbjpfkaaGreatDoorAY
set_option maxRecDepth 100000
set_option maxHeartbeats 0
set_option linter.all false
namespace Go.Proofs.YtnjiinbhbjpfkaaGreatDoor
open Go.RowKit Go.Proofs.Tryz
namespace D
open F
variable {d:Dp}{m m':Dm}{g g':Dg}{w w':aa}
def pW(w0 wr:aa)(ad:Option Addr)(n c:Nat)(L:List B.V):Prop:=wr.ownsRow 0 115 2 (.slice ad n c) n (ij L)/\(∀k,fk ad=some k->w0.heap.size<=k)/\w0.grownBy wr none
theorem ri(l r:List B.V):ij (l++r)=ij l++ij r:=by unfold ij;grind
theorem kS(l:List B.V):(ij l).length=l.length*2:=by
 induction l with
 |nil=>rfl
 |cons a l e=>
  grind[ij,List.length_append]
theorem oM:∀(l:List B.V) (j:Nat) (v:B.V),l[j]?=some v->(ij l)[j*2]?=some (ah v.1)/\(ij l)[j*2+1]?=some (ah v.2)
 | [],j,v,h=>by grind
 | a :: l,0,v,h=>by
  simp at h;subst h
  exact⟨rfl,rfl⟩
 | a :: l,j+1,v,h=>by
  have:=oM l j v ey;grind[ij]
theorem pW.cell{w0 wr:aa}{ad:Option Addr}{n c:Nat}{L:List B.V}(h:pW w0 wr ad n c L)(hn:n=L.length){i:Nat}{v:B.V}(hi:L[i]?=some v):∃b,ad=some (az b 0)/\b<wr.heap.size/\wr.cell? (az b<|i*2)=some (ah v.1)/\wr.cell? (az b<|i*2+1)=some (ah v.2):=by
 have Y:=(cf.1 hi).1;let⟨b,c',e⟩:=ef h.1 af;injection e with e1 _ _;subst e1;have h1:=h.1;rcases h1.2 with⟨h2,_⟩|⟨g',y,J,k1,_,G,k4,k5,k6,k7⟩
 .cases h2
 cases k1;have H:∀j u,(ij L)[j]?=some u->j<n*2->dW wr b j=some u:=λj u o W=>by
  rw[<-k7,dP,bf W]at o;grind[World.cell?]
 grind[oM,ch]
theorem pW.app{w0 wr J:aa}{ad:Option Addr}{n c b G z:Nat}{L R:List B.V}{W:aa}(h:pW w0 wr ad n c L)(i:wr.grownBy W none)(ho:J.ownsRow 0 115 2 (dD b (n+R.length) G) (n+R.length) (ij L++ij R))(u:W.grownBy J (Value.slice ad n c).ownBlock)(hz:wr.heap.size<=z)(H:mu z (.slice ad n c) (dD b (n+R.length) G)):pW w0 J (some<|az b 0) (n+R.length) G (L++R):=by
 obtain⟨h1,Z,o⟩:=h;rw[dJ]at u;refine⟨by grind[ri],λk y=>?_,?_⟩
 .have Y:k=b:=by
   have:some b=some k:=y;injection this with this;exact this.symm
  subst Y;rcases H with e|⟨b',e1,e2⟩
  .grind[fk,dJ]
  have:k=b':=by injection e1
  have:=o.size;omega
 refine⟨u.os.trans<|i.os.trans o.os,u.tape.trans<|i.tape.trans o.tape,u.output.trans<|i.output.trans o.output,by have:=u.size;have:=i.size;have:=o.size;omega,λk y _=>?_⟩;have hs:=o.size;have a0:=i.size;rw[u.block k af (λe=>by grind),i.block k af af];exact o.block k y af
def pW.nil(w:aa):pW w w none 0 0 []:=⟨eg _ _ _ _,(λk e=>by cases e),aw _ _⟩
def Ao(d:Dp)(m:Dm)(I k:Nat)(L:List B.V):Prop:=
 (∀v,v∈L->GN d m v)/\(∀t,1<=t->t<=I->(m.T t).out∈L/\∀i a,i<(m.T t).fr.length->a<d.rg (fX m t i).f->(fX m t i).R a∈L)/\(k≠0->(m.T<|I+1).out∈L/\∀i a,i+1<k->a<d.rg (fX m (I+1) i).f->(fX m (I+1) i).R a∈L)
def Tryz.FN:(prog.info? 4).map (λi=>(i.zero,i.size,i.bytes))=some (some<|.bool false,1,1):=by kernel_rfl
def Tryz.underlying231:prog.underlying 231=some (.slice 4):=by kernel_rfl
theorem AK{w:aa}{g b e:Nat}(h:w.ownsRow e 4 1 (dD g b b) b (madeCells #[.bool false]<|b).toList):Full w g 4 b b (λ_=>.bool false):=by
 rcases h.2 with⟨h,_⟩|⟨g',u,i,G,h2,W,h4,Z,H,J⟩
 .cases h
 cases G;refine⟨i,W,af,λj Y=>?_⟩;have o:=congrArg (λl=>l[j]?) J;have y:(madeCells #[.bool false]<|b).toList[j]?=some (.bool false):=by
  simp only[madeCells,Array.getElem?_toList,Array.getElem?_map,Array.getElem?_range];rw[mL];simp[Nat.mod_one]
 grind
def ry(R:Nat->B.V)(nr:Nat):List B.V:=(List.range nr).map R
theorem qj(R:Nat->B.V)(nr:Nat):(ry R nr).length=nr:=by grind[ry]
theorem EO{R:Nat->B.V}{nr j:Nat}{u:Value}(h:(ij<|ry R nr)[j]?=some u):j<nr*2/\u=eR R j:=by
 have y:j<nr*2:=by
  have:=(cf.1 h).1;rw[kS,qj]at this;exact this
 refine⟨y,?_⟩;have hi:(ry R nr)[j/2]?=some (R<|j/2):=by
  unfold ry;rw[fB,iZ af];rfl
 let⟨i,o⟩:=oM _ _ _ hi;unfold eR;grind
def zq(l:List B.V):∀u∈ij l,u.oneCell'=true:=by
 intro u e;unfold ij at e;let⟨v,_,i⟩:=List.mem_flatMap.1 e;simp at i;rcases i with rfl|rfl<;>rfl
theorem Ao.zero(d:Dp)(m:Dm):Ao d m 0 0 []:=⟨(λv e=>by cases e),(λt o i=>by omega),λh=>dr rfl h⟩
theorem Ao.one{I:Nat}{L:List B.V}(h:Ao d m I 0 L)(hI:I<m.nt):Ao d m I 1 (L++[(m.T<|I+1).out]):=by
 refine⟨λv e=>?_,λt u o=>?_,λ_=>⟨eG,λi a hi _=>by omega⟩⟩
 .rcases ed.1 e with e|e
  .exact h.1 v e
  rw[gd.1 e];exact ag ⟨I+1,⟨af,af⟩,rfl⟩
 let⟨G,H⟩:=h.2.1 t u o;grind
theorem Ao.more{I k:Nat}{L:List B.V}(h:Ao d m I (k+1) L)(hI:I<m.nt)(y:k<(m.T<|I+1).fr.length):Ao d m I (k+2) (L++ry (fX m (I+1) k).R (d.rg (fX m (I+1) k).f)):=by
 let⟨H,G⟩:=h.2.2 af;refine⟨λv o=>?_,λt W J=>?_,λ_=>⟨eO _ H,λi a hi u=>?_⟩⟩
 .rcases ed.1 o with o|o
  .exact h.1 v o
  unfold ry at o;obtain⟨a,u,rfl⟩:=eX.1 o;exact ak ⟨I+1,k,a,⟨af,af⟩,y,fY.1 u,rfl⟩
 .let⟨Y,Z⟩:=h.2.1 t W J;grind
 grind[List.mem_append_right,ry,List.mem_append_left]
theorem Ao.next{I:Nat}{L:List B.V}(h:Ao d m I ((m.T<|I+1).fr.length+1) L):Ao d m (I+1) 0 L:=by
 let⟨y,o⟩:=h.2.2 af;refine⟨h.1,λt G H=>?_,λe=>dr rfl e⟩;by_cases e:t=I+1
 .grind
 exact h.2.1 t G af
structure Scan(d:Dp) (m:Dm) (I:Nat) (S:List Nat) (L:List B.V):Prop where
 nd:S.Nodup
 s:∀c,c∈S->mA d m c
 l:∀v,v∈L->v.1≠0->mA d m v.1
 r:∀v,GN d m v->v∈L
 i:∀j v,j<I->L[j]?=some v->v.1≠0->v.1∈S
 m:∀c,c∈S->∀v,v∈m.M c->v∈L
def Ao.scan{L:List B.V}(h:Ao d m m.nt 0 L):Scan d m 0 [] L:=by
 refine⟨List.nodup_nil,(λc o=>by cases o),λv e y=>.root (h.1 v e) y,λv e=>?_,(λj v G=>by omega),(λc o=>by cases o)⟩;rcases e with⟨t,ht,rfl⟩|⟨t,i,a,ht,hi,u,rfl⟩
 .exact(h.2.1 t ht.1 ht.2).1
 exact(h.2.1 t ht.1 ht.2).2 i a hi u
theorem Scan.done{S:List Nat}{L:List B.V}(h:Scan d m L.length S L):lA d m S.length:=by
 refine⟨S,h.nd,λc=>⟨h.s c,λH=>?_⟩,rfl⟩;have u:∀v,v∈L->v.1≠0->v.1∈S:=λv o y=>by
  grind[List.getElem_of_mem,List.getElem?_eq_getElem,D.Scan.i]
 induction H with
 |root o y=>exact u _ (h.r _ o) y
 |slot H o y J=>grind[D.Scan.m]
theorem Scan.skip{I:Nat}{S:List Nat}{L:List B.V}{v:B.V}(h:Scan d m I S L)(G:L[I]?=some v)(H:v.1=0\/v.1∈S):Scan d m (I+1) S L:=by
 refine⟨h.nd,h.s,h.l,h.r,λj u J o y=>?_,h.m⟩;by_cases e:j=I
 .grind
 exact h.i j u af o y
theorem Scan.take{I:Nat}{S:List Nat}{L:List B.V}{v:B.V}(h:Scan d m I S L)(H:L[I]?=some v)(Y:v.1≠0)(W:v.1∉S):Scan d m (I+1) (v.1 :: S) (L++m.M v.1):=by
 have J:=h.l v (eh H) Y;have hI:=(cf.1 H).1;refine⟨List.nodup_cons.2 ⟨W,h.nd⟩,λc G=>?_,λu o y=>?_,λu o=>eO _<|h.r u o,λj u Z o y=>?_,λc G u o=>?_⟩
 .grind[D.Scan.s]
 .rcases ed.1 o with o|o
  .exact h.l u o y
  exact .slot J o y
 .rw[fq af]at o;by_cases e:j=I
  .grind
  exact List.mem_cons_of_mem _<|h.i j u af o y
 grind[List.mem_append_right,List.mem_append_left,D.Scan.m]
def Scan.len{I:Nat}{S:List Nat}{L:List B.V}(h:Scan d m I S L)(i:∀c,mA d m c->1<=c/\c<=m.nc):S.length<=m.nc:=gR m.nc S h.nd<|λc e=>i c<|h.s c e
def ru(S:List Nat):Nat->Value:=λj=>.bool (decide (j∈S))
theorem Ax(S:List Nat)(c j:Nat):eE (ru S) c (.bool true) j=ru (c :: S) j:=by
 unfold eE ru;grind
def qJ{P:Program}{ops:Array Oper}{rest:List Oper}{o:Oper}{a:Act}{w:aa}{Q:Exit->Act->aa->Prop}(H:o.guard=none)(s x:Operand)(t:TypeId)(G:o.op=Op.call {callee:=Callee.builtin Builtin.append,args:=#[s,x],argTypes:=#[t,t]})(e:TypeId)(i:TypeInfo)(W:P.underlying t=some (.slice e))(Z:P.info? e=some i)(u ad:Option Addr)(n cap c:Nat)(Y:a.eval s=.slice u n cap)(hx:a.eval x=.slice ad 0 c)(J:n<=cap)(h:wpList P ops Q rest (a.put o.dst<|.slice u n cap) w):wpList P ops Q (o :: rest) a w:=
 wpList_plain H λ_ hK=>by
  unfold Oper.wp;simp[execOp,G,resolve,invoke,builtin,Y,hx,oY (P:=P) w t o.type e i W Z u ad n cap c J,Result.andThen];exact hK _ _ h
structure Cl(d:Dp) (m:Dm):Prop where
 nt:m.nt≠0
 n1:m.nt<1000000000
 n2:m.nc<1000000000
 f:∀t,nF m t->(m.T t).fr.length<=20/\∀i,i<(m.T t).fr.length->1<=d.rg (fX m t i).f/\d.rg (fX m t i).f<=8
 c:∀c,mA d m c->1<=c/\c<=m.nc/\(m.M c).length<=8
theorem om(h:dZ d m g w)(hC:Cl d m):Calls prog 79 #[P0 g.mb] w λe w'=>∃N:Nat,e=.returned (ah N)/\lA d m N/\w.grownBy w' none:=by
 let⟨i0,hi,bJ,bD,bU⟩:=info_parts Tryz.FN;let⟨j0,Y,aJ,aI,aF⟩:=info_parts Tryz.uq;let⟨hn,n1,n2,_,_⟩:=id hC;have c9:w.cell? ⟨g.mb,12,none⟩=some (.slice (g.ro 3 0).1 m.nc (g.ro 3 0).2):=(h.mc 12 af rfl).1;have lm:=h.M.lt;have q0:IntKind.i64.wrap ((m.nc:Int)+1)=(m.nc:Int)+1:=jA
 have HR:=bj h;have HC:=bj hC;clear h hC;go_in;go_wp2_with (at_make;go_loud (refine wpList_make_full _ rfl _ _ 231 rfl 0 4 i0 _ 1 Tryz.underlying231 hi bJ bD _ _ _ _ (m.nc+1) rfl rfl rfl rfl (lD bU) pY (di _) ?_))
 intro w1 aA aG;have aU:=bj<|AK aA;have aK:=bj aG;have bM:w.heap.size<w1.heap.size:=aU.lt;clear aA aG c9;go_wp2_with fail
 go_loopw[4,5,6] (λl i k wr=>∃(I n c:Nat) (ad:Option Addr) (L:List B.V),l=.slice ad n c/\i=ah I/\I<=m.nt/\n=L.length/\n<=I*161/\Hid (pW w1 wr ad n c L)/\Hid (Ao d m I 0 L)) (λ_ i _ _=>m.nt-(intOf i).toNat)
 case atStart=>exact⟨0,0,0,none,[],rfl,rfl,af,rfl,af,pW.nil _,Ao.zero d m⟩
 case round=>
  obtain⟨I,n,c,ad,L,rfl,rfl,hI,bX,cS,rL,rU⟩:=hrel;subst bX;have KG:=bj<|ar aK rL.2.2;have G:=bj<|HR.kept KG;let⟨tb,hb,hl,hm,hF⟩:=G.T hn;have c6:wr.cell? ⟨g.mb,6,none⟩=some (.slice (some ⟨tb,0,none⟩) m.nt (g.ro 1 0).2):=by rw[<-hb];exact(G.mc 6 af rfl).1
  by_cases b3:I<m.nt
  .have aB:(I:Int)<m.nt:=af
   have t6:wr.cell? ⟨tb,I*8+6,none⟩=some (ah ((m.T<|I+1).out.1:Int)):=(hF.cell (I*8+6) af).trans<|congrArg some<|rp m g (t:=I+1) (k:=6) af af af;have t7:wr.cell? ⟨tb,I*8+7,none⟩=some (ah (m.T<|I+1).out.2):=(hF.cell (I*8+7) af).trans<|congrArg some<|rp m g (t:=I+1) (k:=7) af af af;have J:=bj rL.1;have aX:=λk hk=>(dR J k hk).2.1;have aO:=bj aX;clear aX hF hb hl hm;go_wp2_with (at_builtin;refine jR rfl (.tmp 26) (.tmp 35) 161 rfl 115 j0 _ 2 16 Tryz.underlying161 Y aJ aI aF rfl eo _ _ _ _ rfl (dS J<|λk h=>au _ _ _<|aO k h) ⟨wr.heap.size,0,none⟩ 1 1 [ah ((m.T<|I+1).out.1:Int),ah (m.T<|I+1).out.2] rfl rfl ?c1 ?c2 ?c3 ?c4 ?c5 ?_)
   try case c1=>intro j u Y;match j,Y with|0,Y=>(simp at Y;subst Y;simp[Addr.add,go_sem])|1,Y=>(simp at Y;subst Y;simp[Addr.add,go_sem])
   try case c2=>simp[Value.oneCell']
   try case c3=>unfold maxLen;omega
   try case c4=>omega
   try case c5=>omega
   intro v' w6 ho W Z;obtain⟨b,c',rfl⟩:=ef ho af;have b0:Hid (pW w1 w6 (some ⟨b,0,none⟩) (L.length+1) c'<|L++[(m.T<|I+1).out]):=pW.app (R:=[(m.T<|I+1).out]) rL (aj _ _ none) ho W (Nat.le_succ _) Z;have bO:=bj<|rU.one b3;clear ho W Z J aO rL rU t6 t7 c6 G KG;have aE:(L++[(m.T<|I+1).out]).length=L.length+1:=kh db
   rw[<-aE]at b0;rw[<-aE];have hn1:(L++[(m.T<|I+1).out]).length<=I*161+1:=af
   generalize L++[(m.T<|I+1).out]=L1 at*;have HD:Hid (nF m<|I+1):=⟨af,af⟩;let⟨cN,b7⟩:=HC.f (I+1) HD;have bZ:=bj b7;clear b7 aE;go_wp2_with fail
   go_loopw[4,6] (λl k wr=>∃(n c H:Nat) (ad:Option Addr) (L:List B.V),l=.slice ad n c/\k=ah H/\H<=(m.T<|I+1).fr.length/\n=L.length/\n<=I*161+1+H*8/\Hid (pW w1 wr ad n c L)/\Hid (Ao d m I (H+1) L)) (λ_ k _=>(m.T<|I+1).fr.length-(intOf k).toNat)
   case atStart=>exact⟨L1.length,c',0,_,L1,rfl,rfl,af,rfl,af,b0,bO⟩
   case round=>
    obtain⟨cT,bI,H,b9,y,rfl,rfl,cX,aM,cI,o,a8⟩:=hrel;subst aM;have aR:=bj<|ar aK o.2.2;have G:=bj<|HR.kept aR;let⟨aH,bB,_,_,aV⟩:=G.T hn;have d6:wr.cell? ⟨g.mb,6,none⟩=some (.slice (some ⟨aH,0,none⟩) m.nt (g.ro 1 0).2):=by rw[<-bB];exact(G.mc 6 af rfl).1
    have d0:wr.cell? ⟨aH,I*8,none⟩=some (.slice (g.ro 5<|I+1).1 (m.T<|I+1).fr.length (g.ro 5<|I+1).2):=(aV.cell (I*8) af).trans<|congrArg some<|rp m g (t:=I+1) (k:=0) af af af;clear aV bB;by_cases aC:H<(m.T<|I+1).fr.length
    .have cU:(H:Int)<((m.T<|I+1).fr.length:Int):=af
     let⟨fb,b2,_,_,aD⟩:=G.F HD af;have f1:wr.cell? ⟨fb,H*4+1,none⟩=some (.slice (some ⟨g.rb (I+1) H,0,none⟩) (d.rg (fX m (I+1) H).f)<|d.rg (fX m (I+1) H).f):=(aD.cell (H*4+1) af).trans<|congrArg some<|vD d m g (I+1) af;have cY:=aD.lt;have aP:=bj<|G.R HD aC;rw[b2]at d0;have J:=bj o.1;let⟨r1,r8⟩:=bZ H aC;have bR:=bj<|a8.more b3 aC;clear aD b2;generalize g.rb (I+1) H=bP at*;generalize bY:d.rg (fX m (I+1) H).f=nr at*;generalize bG:(fX m (I+1) H).R=RR at*;generalize (m.T<|I+1).fr.length=fl at*;generalize (g.ro 5<|I+1).2=fc at*;clear bY bG;go_wp2_with (at_builtin;refine jR rfl (.tmp 50) (.tmp 62) 161 rfl 115 j0 _ 2 16 Tryz.underlying161 Y aJ aI aF rfl eo _ _ _ _ rfl J ⟨bP,0,none⟩ nr nr (ij<|ry RR nr) rfl (by rw[kS,qj]) ?c1 ?c2 ?c3 ?c4 ?c5 ?_)
     try case c1=>
      intro j u Y;let⟨a1,a2⟩:=EO Y;rw[a2];have:=aP.cell j a1
      cases j with
      |zero=>simpa[Addr.add] using this
      |succ j=>simpa[Addr.add] using this
     try case c2=>exact zq _
     try case c3=>unfold maxLen;omega
     try case c4=>omega
     try case c5=>omega
     intro v' w6 ho W Z;obtain⟨b6,a7,rfl⟩:=ef ho af;have a4:=bj<|pW.app (R:=ry RR nr) o (aw _ _) (eZ qj ho) W (bm _)<|eZ qj Z;rw[qj]at a4;have a3:(y++ry RR nr).length=y.length+nr:=by rw[db,qj]
     clear ho W Z J aP o a8 d6 d0 f1 G aR;rw[<-a3]at a4;rw[<-a3];generalize y++ry RR nr=L3 at*;have bH:L3.length<=I*161+1+(H+1)*8:=af
     clear a3;go_wp2_with fail
     go_roundw
     case rel=>exact⟨L3.length,a7,H+1,_,L3,rfl,iI,af,rfl,bH,a4,bR⟩
     case measure=>simp[intOf];omega
    obtain rfl:H=(m.T<|I+1).fr.length:=by omega
    have bV:=bj a8.next;have cG:=bj o;have bK:y.length<=(I+1)*161:=af
    generalize (g.ro 5<|I+1).1=fa at*;generalize (g.ro 5<|I+1).2=fc at*;clear o a8;go_wp2_with fail
    go_roundw
    case rel=>exact⟨I+1,y.length,bI,b9,y,rfl,iI,af,rfl,bK,cG,bV⟩
    case measure=>simp[intOf];omega
  obtain rfl:I=m.nt:=by omega
  have cH:=bj rU.scan;have bQ:Hid (pW w wr ad L.length c L):=⟨rL.1,λk hk=>by have:=rL.2.1 k hk;omega,KG⟩;have aW:Hid (Full wr (fp w) 4 (m.nc+1) (m.nc+1)<|ru []):=(aU.block<|rL.2.2.block (fp w) bM je).congr (λj _=>by unfold ru;simp);clear rL rU hF hb hl hm G KG;go_wp2_with fail
  go_loopg [4,7,8,9] (m.nc*9+L.length) (λq l nn i cc wr=>∃(I n N c:Nat) (ad:Option Addr) (S:List Nat) (L:List B.V),l=.slice ad n c/\nn=ah N/\i=ah I/\n=L.length/\N=S.length/\I<=L.length/\L.length<=m.nt*161+N*8/\q=(m.nc-N)*9+(L.length-I)/\Hid (Scan d m I S L)/\Hid (pW w wr ad n c L)/\Hid (Full wr (fp w) 4 (m.nc+1) (m.nc+1)<|ru S))
  case atStart=>exact⟨0,L.length,0,c,ad,[],L,rfl,rfl,rfl,rfl,rfl,af,af,eG,cH,bQ,aW⟩
  case round=>
   obtain⟨I,n,N,c2,b9,S,y,rfl,rfl,rfl,cB,hN,cR,b1,hq,rS,o,rF⟩:=hrel;subst cB;subst hN;have d2:=rS.len<|λc hc=>⟨(HC.c c hc).1,(HC.c c hc).2.1⟩;by_cases aB:I<y.length
   .obtain⟨v,hv⟩:∃v,y[I]?=some v:=⟨_,bw aB⟩;obtain⟨b,rfl,lb,v0,v1⟩:=o.cell rfl hv;have cM:(I:Int)<y.length:=af
    by_cases h0:v.1=0
    .rw[h0]at v0;have KS:=bj<|rS.skip hv<|ag h0;clear rS;go_wp2_with fail
     go_roundg ((m.nc-S.length)*9+(y.length-(I+1)))
     case rel=>exact⟨I+1,y.length,S.length,c2,_,S,y,rfl,rfl,iI,rfl,rfl,af,b1,rfl,KS,o,rF⟩
     case measure=>omega
    have hr:mA d m v.1:=rS.l v (eh hv) h0;let⟨r1,r2,r3⟩:=HC.c v.1 hr
    have p2:(v.1:Int)<m.nc+1:=af
    have p3:(0:Int)<=v.1:=af
    let⟨s0,z0⟩:=rF.cells v.1 af;by_cases hs:v.1∈S
    .have s1:wr.cell? ⟨w.heap.size,v.1,none⟩=some (.bool true):=by rw[s0];unfold ru;rw[fy hs]
     have KS:=bj<|rS.skip hv<|ak hs;clear rS s0 hs;go_wp2_with fail
     go_roundg ((m.nc-S.length)*9+(y.length-(I+1)))
     case rel=>exact⟨I+1,y.length,S.length,c2,_,S,y,rfl,rfl,iI,rfl,rfl,af,b1,rfl,KS,o,rF⟩
     case measure=>omega
    have s1:wr.cell? ⟨w.heap.size,v.1,none⟩=some (.bool false):=by rw[s0];unfold ru;rw[eV hs]
    have KS:=bj<|rS.take hv h0 hs;have aL:=KS.len<|λc hc=>⟨(HC.c c hc).1,(HC.c c hc).2.1⟩;rw[List.length_cons]at aL;have G:=bj<|HR.kept o.2.2;let⟨cb,k1,k2,k3,k4,k5⟩:=G.cc r1 r2;have aZ:=bj<|G.S r1 r2;have p4:IntKind.i64.wrap ((v.1:Int)-1)=((v.1-1:Nat):Int):=by rw[fz,dL _ af];omega
    have p5:v.1-1<m.nc:=af
    have nb:b≠w.heap.size:=by
     have:=o.1;exact eU this rF eo b rfl
    have d1:w.heap.size<wr.heap.size:=rF.lt;have bL:cb≠w.heap.size:=λe=>by
     have cL:cb<w.heap.size:=by
      let⟨cQ,a6,cW,_⟩:=HR.cc r1 r2;rw[k1]at a6;injection a6 with a6;injection a6 with a6 _;omega
     omega
    have c7:g.mb≠w.heap.size:=af
    have a9:=bj<|(rF.eE v.1<|.bool true).congr (λj _=>Ax S v.1 j);have a5:Hid (pW w (iA wr (fp w) v.1<|.bool true) (some ⟨b,0,none⟩) y.length c2 y):=⟨dS o.1 (λk hk=>ab _ _ _ _ (by
     have:k=b:=by simpa[Value.ownBlock] using hk.symm
     rw[this];exact nb)),o.2.1,bu o.2.2 (ak<|bm _) _⟩
    have bA:Hid (∀j,j<(m.M v.1).length*2->(iA wr (fp w) v.1<|.bool true).cell? ⟨g.sb v.1,j,none⟩=some (eR (nD<|m.M v.1) j)):=λj Y=>(bd (a:=⟨g.sb v.1,j,none⟩) (ab _ _ _ _ (by
     have:=(HR.S r1 r2).lt;show g.sb v.1≠w.heap.size;omega))).trans<|aZ.cell j Y
    have bW:(iA wr (fp w) v.1<|.bool true).cell? ⟨g.mb,12,none⟩=some (.slice (some ⟨cb,0,none⟩) m.nc (g.ro 3 0).2):=(bd (a:=⟨g.mb,12,none⟩)<|ab _ _ _ _ c7).trans k3;have c8:(iA wr (fp w) v.1<|.bool true).cell? ⟨cb,(v.1-1)*2,none⟩=some (.slice (some ⟨g.sb v.1,0,none⟩) (m.M v.1).length (m.M v.1).length):=(bd (a:=⟨cb,(v.1-1)*2,none⟩)<|ab _ _ _ _ bL).trans k4;clear rS s0 hs G aZ k1 k3 k4 k5 rF o;generalize aN:(m.M v.1).length=sl at*;generalize cD:v.1-1=zv at*;have p6:(zv:Int)<m.nc:=af
    have p7:(0:Int)<=zv:=af
    have a0:=bj aN;clear aN cD;by_cases cF:sl=0
    .subst cF;have b5:=dh.1 a0;have bN:Hid (Scan d m (I+1) (v.1 :: S) y):=by have:=KS.out;rw[b5,gY]at this;exact this
     have aQ:y.length<=c2:=by
      rcases a5.1.2 with⟨h2,_⟩|⟨g',cO,cZ,k1,_,k3,k4,_⟩
      .cases h2
      cases k1;exact k4
     clear b5 KS;go_wp2_with (at_builtin;refine qJ rfl (.tmp 89) (.tmp 98) 161 rfl 115 j0 Tryz.underlying161 Y (some ⟨b,0,none⟩) (some ⟨g.sb v.1,0,none⟩) y.length c2 0 rfl rfl aQ ?_)
     go_roundg ((m.nc-(S.length+1))*9+(y.length-(I+1)))
     case rel=>exact⟨I+1,y.length,S.length+1,c2,_,v.1 :: S,y,rfl,iI,iI,rfl,rfl,af,af,rfl,bN,a5,a9⟩
     case measure=>omega
    have J:=bj a5.1;have aY:∀j u,(ij<|m.M v.1)[j]?=some u->j<sl*2/\u=eR (nD<|m.M v.1) j:=λj u hu=>by
     have e1:m.M v.1=ry (nD<|m.M v.1) sl:=by
      unfold ry nD;apply List.ext_getElem?
      intro i;rw[fB];by_cases hi:i<sl
      .rw[iZ hi];have aS:i<(m.M v.1).length:=eZ a0.out hi
       rw[bw aS];show _=some ((m.M v.1).getD i (0,0));rw[cw,bw aS];rfl
      rw[dO<|lD a0.out,dO fV];rfl
     rw[e1]at hu;exact EO hu
    have b4:=bj aY;have b8:(ij<|m.M v.1).length=sl*2:=by rw[kS,a0.out]
    have aT:=bj b8;clear aY b8;go_wp2_with (at_builtin;refine jR rfl (.tmp 89) (.tmp 98) 161 rfl 115 j0 _ 2 16 Tryz.underlying161 Y aJ aI aF rfl eo _ _ _ _ rfl J ⟨g.sb v.1,0,none⟩ sl sl (ij<|m.M v.1) rfl aT ?c1 ?c2 ?c3 ?c4 ?c5 ?_)
    try case c1=>
     intro j u Y;let⟨a1,a2⟩:=b4 j u Y;rw[a2];have:=bA j a1
     cases j with
     |zero=>simpa[Addr.add] using this
     |succ j=>simpa[Addr.add] using this
    try case c2=>exact zq _
    try case c3=>unfold maxLen;omega
    try case c4=>omega
    try case c5=>omega
    intro v' w6 ho W Z;obtain⟨b6,a7,rfl⟩:=ef ho af;have a4:=bj<|pW.app (R:=m.M v.1) a5 (aw _ _) (eZ a0.out ho) W (z:=wr.heap.size) (by simp[World.setCell])<|eZ a0.out Z;rw[a0.out]at a4;have bE:Hid (Full w6 (fp w) 4 (m.nc+1) (m.nc+1)<|ru<|v.1 :: S):=a9.block<|W.block (fp w) a9.lt<|λe=>nb (by injection e with e;exact e.symm);have a3:(y++m.M v.1).length=y.length+sl:=by rw[db,a0.out]
    clear ho W Z J a5 a9 bA bW c8 b4 aT;rw[<-a3]at a4;rw[<-a3];have bF:=bj KS;have bC:I+1<=(y++m.M v.1).length:=af
    have cA:(y++m.M v.1).length<=m.nt*161+(S.length+1)*8:=af
    have cV:(m.nc-(S.length+1))*9+((y++m.M v.1).length-(I+1))<(m.nc-S.length)*9+(y.length-I):=af
    clear a3 KS;generalize y++m.M v.1=L7 at*;go_wp2_with fail
    go_roundg ((m.nc-(S.length+1))*9+(L7.length-(I+1)))
    case rel=>exact⟨I+1,L7.length,S.length+1,a7,_,v.1 :: S,L7,rfl,iI,iI,rfl,rfl,bC,cA,rfl,bF,a4,bE⟩
    case measure=>omega
   obtain rfl:I=y.length:=by omega
   have KD:=bj rS.done;have bT:=bj o.2.2;clear rS;go_wp2_with fail
   go_ret;exact⟨S.length,rfl,KD,bT⟩
def Dc.full(c:Dc):Dc:={c with fu:=true}
theorem I6{rb:Nat}{x16 x19 x20:Int}(Y:IntKind.i64.wrap (x16+1)=x16+1)(W:IntKind.i64.wrap (x19+1)=x19+1)(J:IntKind.i64.wrap (x20+1)=x20+1)(i:w.cell? (az rb 16)=some (ah x16)/\w.frozen? (az rb 16)=false)(o:w.cell? (az rb 19)=some (ah x19)/\w.frozen? (az rb 19)=false)(u:w.cell? (az rb 20)=some (ah x20)/\w.frozen? (az rb 20)=false):eN 226 #[Pt rb 16] w λw'=>w'=((w.setCell (az rb 16)<|ah<|x16+1).setCell (az rb 19)<|ah<|x19+1).setCell (az rb 20) (ah<|x20+1):=by
 obtain⟨i,y⟩:=i;obtain⟨o,G⟩:=o;obtain⟨u,H⟩:=u;delta eN;go_in;go_wp2
 go_end0;grind
theorem JF(h:dZ d m g w)(H:m.G.all<1000000000)(Y:m.G.sure<1000000000)(h3:m.G.kL<1000000000):eN 226 #[Pt g.mb 16] w λw'=>Tr d m g w (m.jB m.G.born) g w':=by
 have wr:∀x:Nat,x<1000000000->IntKind.i64.wrap ((x:Int)+1)=(x:Int)+1:=λx hx=>by rw[fz,dL _ af]
 refine dq (I6 (x16:=(m.G.all:Int)) (x19:=(m.G.sure:Int)) (x20:=(m.G.kL:Int)) (wr _ H) (wr _ Y) (wr _ h3) (h.mc 16 af rfl) (h.mc 19 af rfl)<|h.mc 20 af rfl) ?_;rintro w' rfl;have y:∀(m1:Dm) (w1:aa) (j:Nat) (v:Value) (G:Dc),dZ d m1 g w1->(∀i,i<24->mE d (m1.jB G) g i=if i=j then v else mE d m1 g i)->Tr d m1 g w1 (m1.jB G) g (iA w1 g.mb j v):=λm1 w1 j v G Z o=>Z.yN j v ⟨rfl,rfl,rfl,rfl,rfl,rfl,rfl,rfl⟩ o;have ev:∀(m1:Dm) (G:Dc) (j:Nat) (v:Value),16<=j->j<24->(∀i,16<=i->i<24->mE d (m1.jB G) g i=if i=j then v else mE d m1 g i)->∀i,i<24->mE d (m1.jB G) g i=if i=j then v else mE d m1 g i:=λm1 G j v H Y o i hi=>by
  by_cases e:16<=i
  .grind
  rw[eK];have hc:=pS 15 i af
  (repeat' rcases hc with rfl|hc)<;>rfl
 have u:∀i:Nat,16<=i->i<24->i=16\/i=17\/i=18\/i=19\/i=20\/i=21\/i=22\/i=23:=λi a b=>by omega
 have W:=y m w 16 (jz<|(m.G.all:Int)+1) {m.G with all:=m.G.all+1} h<|ev _ _ _ _ af af (λi a b=>by (have h':=u i a b;repeat' rcases h' with rfl|h')<;>rfl);have J:=y _ _ 19 (jz<|(m.G.sure:Int)+1) {m.G with all:=m.G.all+1,sure:=m.G.sure+1} W.r<|ev _ _ _ _ af af (λi a b=>by (have h':=u i a b;repeat' rcases h' with rfl|h')<;>rfl);exact⟨rfl,(W.trans J).trans<|y _ _ 20 (jz<|(m.G.kL:Int)+1) m.G.born J.r<|ev _ _ _ _ af af (λi a b=>by (have h':=u i a b;repeat' rcases h' with rfl|h')<;>rfl)⟩
def fJ(d:Dp)(m:Dm):Dc:=if d.n<=m.G.all then m.G.full else m.G
def dZ.full(h:dZ d m g w):Tr d m g w (m.jB m.G.full) g (w.setCell (az g.mb 23)<|.bool true):=h.yN 23 _ ⟨rfl,rfl,rfl,rfl,rfl,rfl,rfl,rfl⟩ (λi hi=>by
 have e:=pS 23 i af
 (repeat' rcases e with rfl|e)<;>rfl)
theorem mA.jB(G:Dc){c:Nat}:mA d (m.jB G) c↔mA d m c:=by
 constructor
 .intro h;induction h with
  |root e i=>exact .root e i
  |slot _ e i o=>exact .slot o e i
 intro h;induction h with
 |root e i=>exact .root e i
 |slot _ e i o=>exact .slot o e i
theorem Cl.jB(h:Cl d m)(G:Dc):Cl d (m.jB G):=⟨h.nt,h.n1,h.n2,h.f,λc e=>h.c c<|(mA.jB G).1 e⟩
theorem Jp(h:dZ d m g w)(hC:Cl d m):Calls prog 225 #[P0 g.mb] w λe w'=>∃(ok:Bool),e=.returned (.bool ok)/\Tr d m g w (m.jB<|fJ d m) g w'/\(((fJ d m).fu=false/\ok=decide (0<d.n))\/∃N:Nat,lA d m N/\ok=decide (N<d.n)):=by
 have a1:dW w g.mb 16=some (ah m.G.all):=(h.mc 16 af rfl).1;have c1:dW w g.mb 1=some (ah d.n):=(h.mc 1 af rfl).1;obtain⟨J,a0⟩:=h.mc 23 af (v:=.bool m.G.fu) rfl;have lm:=h.M.lt;have W:=bj h;have HC:=bj hC;by_cases h1:d.n<=m.G.all
 .have Z:(d.n:Int)<=m.G.all:=af
  have hG:fJ d m=m.G.full:=by unfold fJ;rw[bf h1]
  rw[hG];have Y:=bj<|λn=>Tr.ahead (df (aw w none) n) (W.kept<|df (aw w none) n).full;have y:=bj<|λn=>om (Y n).r<|HC.jB m.G.full;go_in;go_wp2
  go_quiet (fail)
  go_wp2_with fail
  refine(y nq).mono ?_;rintro e w5 ⟨N,rfl,H,u⟩;have o:=bj<|(Y nq).kept u;have d1:dW w5 g.mb 1=some (ah d.n):=(o.r.mc 1 af rfl).1;have HN:Hid (lA d m N):=by
   obtain⟨l,l1,l2,l3⟩:=H;exact⟨l,l1,λc=>by grind[mA.jB],l3⟩
  go_wp2
  go_ret;exact⟨_,rfl,o,ak ⟨N,HN,eG⟩⟩
 have Z:¬((d.n:Int)<=m.G.all):=af
 have hG:fJ d m=m.G:=by unfold fJ;rw[av h1]
 rw[hG];have i:m.jB m.G=m:=rfl;rw[i]
 cases hf:m.G.fu with
 |true=>
  rw[hf]at J;have y:=bj<|λn=>om (W.kept<|df (aw w none) n) HC;go_in;go_wp2
  go_quiet (fail)
  go_wp2_with fail
  refine(y nq).mono ?_;rintro e w5 ⟨N,rfl,H,u⟩;have o:=bj<|(Tr.refl W).kept<|ar (df (aw w none) nq) u;have d1:dW w5 g.mb 1=some (ah d.n):=(o.r.mc 1 af rfl).1;have HN:=bj H;go_wp2
  go_ret;exact⟨_,rfl,o,ak ⟨N,HN,eG⟩⟩
 |false=>
  rw[hf]at J;go_in;go_wp2
  go_quiet (fail)
  go_wp2
  go_ret;exact⟨_,rfl,(Tr.refl W).kept<|df (aw w none) nq,ag ⟨by first|exact HF|trivial,eG⟩⟩
end D
namespace F
def jO(v:B.V):Prop:=-9223372036854775808<=v.2/\v.2<=9223372036854775807
structure Ng(s:Pl):Prop where
 F:∀t f,f∈(s.T t).fr->∀a,jO<|f.R a
 M:∀c v,v∈s.M c->jO v
 O:∀v,v∈s.out->jO v
variable {p:dH}{s s':Pl}{t:Nat}
theorem jO.n{x:Int}(i:-9223372036854775808<=x)(e:x<=9223372036854775807):jO (0,x):=⟨i,e⟩
theorem jO.z:jO (0,0):=⟨eo,eo⟩
theorem jO.getD{l:List B.V}(h:∀v,v∈l->jO v)(i:Nat):jO (l.getD i (0,0)):=by
 grind[List.getElem?_eq_getElem,List.getElem_mem,List.getElem?_eq_none,jO.z]
theorem jO.wrap(x:Int):jO (0,B.wrap x):=by
 grind[B.wrap,jO.n]
theorem jO.arith(o:Nat)(x y:Int):jO (0,arith o x y):=by
 grind[F.arith,jO.wrap,tJ,jO.n,jO.z]
theorem jO.wide{b c:Nat}(e:b<256)(i:c<256):jO (0,B.wide b c):=by
 grind[B.wide,jO.n]
theorem Ng.at(h:Ng s)(t i a:Nat):jO ((du s t i).R a):=by
 unfold du;rw[cw];by_cases e:i<(s.T t).fr.length
 .rw[bw e];exact h.F t _ (List.getElem_mem e) a
 rw[dO af];exact jO.z
theorem Ng.slot(h:Ng s)(c i:Nat):jO ((s.M c).getD i (0,0)):=jO.getD (h.M c) i
theorem Ng.same(h:Ng s)(u:∀t,(s'.T t).fr=(s.T t).fr:=by intro t;rfl)(o:s'.M=s.M:=by rfl)(e:s'.out=s.out:=by rfl):Ng s':=
 ⟨λt f i=>h.F t f ey,eZ o h.M,eZ e h.O⟩
theorem Ng.dy(h:Ng s){x:qY}(hx:∀f,f∈x.fr->∀a,jO<|f.R a):Ng (s.dy t x):=
 ⟨λu f i=>by
  by_cases e:u=t
  .subst e;rw[dk]at i;grind
  have:(s.dy t x).T u=s.T u:=av e;rw[this]at i;exact h.F u f i,h.M,h.O⟩
theorem Ng.dM(h:Ng s)(i:Nat){f:jq}(G:∀a,jO<|f.R a):Ng (s.dM t i f):=
 h.dy (λy u=>by
  grind[List.mem_or_eq_of_mem_set,F.Ng.F])
theorem Ng.set{f:jq}(e:∀a,jO<|f.R a)(a:Nat){v:B.V}(i:jO v)(b:Nat):jO ((f.set a v).R b):=by
 show jO (B.set f.R a v b);grind[B.set]
theorem Ng.oZ(h:Ng s)(i a:Nat){v:B.V}(e:jO v):Ng (s.dM t i<|(du s t i).set a v):=h.dM i<|Ng.set (λb=>h.at t i b) a e
theorem Ng.join(h:Ng s)(x y t:Nat):Ng (s.dX x y t):=h.same (λu=>zH s x y t u) (ja s x y t).2.2.2.2.2.2.1 (ja s x y t).2.1
theorem Ng.gk(h:Ng s)(t:Nat){v:B.V}(e:jO v):Ng (s.gk t v):=by
 grind[Pl.gk,F.Ng.join,F.Ng.oZ]
theorem Ng.ep{v:B.V}(e:jO v):∀(l:List Nat) {s:Pl},Ng s->Ng (s.ep v l)
 | [],_,h=>h
 | u :: l,s,h=>by
  show Ng ((s.gk u v).ep v l);exact Ng.ep e l<|h.gk u e
theorem Ng.gone(h:Ng s)(t kind:Nat)(x:Int){v:B.V}(o:jO v):Ng (s.gone t v kind x):=by
 let⟨_,W,_,_,_,_,J,_⟩:=iX s t v kind x;refine⟨λu f G=>?_,eZ J h.M,λy i=>?_⟩
 .refine h.F u f ?_;rw[<-kE s t u];have H:((s.gone t v kind x).T u).fr=((s.dA t).T u).fr:=by
   show(((s.dA t).dy t ((s.dA t).T t).stop).T u).fr=_;by_cases e:u=t
   .subst e;rw[dk];rfl
   rw[show((s.dA t).dy t ((s.dA t).T t).stop).T u=(s.dA t).T u from av e]
  grind
 rw[W]at i;grind[List.mem_or_eq_of_mem_set,F.Ng.O]
theorem Ng.leave(h:Ng s)(t kind:Nat)(x:Int){v:B.V}(e:jO v):Ng (s.leave t v kind x):=Ng.ep e _<|h.gone t kind x e
theorem Ng.pop(h:Ng s)(t:Nat):Ng (s.pop t):=h.dy<|λf e=>h.F t f<|List.dropLast_subset _ e
theorem Ng.back(h:Ng s)(t:Nat){v:B.V}(e:jO v):Ng (s.back t v):=by
 grind[Pl.back,Ng.set,F.Ng.dM,F.Ng.pop,F.Ng.at,F.Ng.leave]
theorem Ng.iz{u v:B.V}(e:jO u)(i:jO v)(a:Nat):jO (iz u v a):=by
 grind[YtnjiinbhbjpfkaaGreatDoor.iz,jO.z]
theorem Ng.push(h:Ng s)(t:Nat){f:jq}(y:∀a,jO<|f.R a):Ng (s.push t f):=h.dy (λu o=>by
 rcases ed.1 o with e|e
 .exact h.F t u e
 grind)
def Ng.more(h:Ng s):Ng s.more:=by
 refine⟨λt f u=>?_,h.M,λv y=>?_⟩
 .have i:f∈(if t=s.nt+1 then sP else s.T t).fr:=u;by_cases e:t=s.nt+1
  .rw[bf e]at i
   cases i
  rw[av e]at i;exact h.F t f i
 rcases ed.1 y with e|e
 .exact h.O v e
 rw[gd]at e;rw[e];exact jO.z
theorem Ng.born(h:Ng s)(f:Nat){u v:B.V}(e:jO u)(i:jO v):Ng (s.born f u v):=(h.more.push _<|λa=>Ng.iz e i a).join 2 0 _
theorem Ng.lay{M:Nat->List B.V}(h:∀c v,v∈M c->jO v)(a:Nat){l:List B.V}(o:∀v,v∈l->jO v):∀c v,v∈B.lay M a l c->jO v:=λc v i=>by
 unfold B.lay at i;grind
theorem Ng.wait(h:Ng s)(x y t:Nat)(k:Nat×Nat×Nat×Nat):Ng (s.wait x y t k):=(h.join x y t).dy<|λf e=>(h.join x y t).F t f e
theorem Ng.iw(h:Ng s)(t:Nat)(u:Int):Ng (s.iw t u):=by
 have y:Ng (s.fO t u):=h.dy<|λf e=>h.F t f e;have i:Ng ((s.fO t u).dA t):=y.same (λv=>kE _ t v) (gI _ t).2.2.2.2.2.2.2.2.1 (gI _ t).2.1;unfold Pl.iw Pl.into Pl.pa;exact i.same.dy<|λf e=>i.F t f e
def Ng.made(h:Ng s){t a ty:Nat}{l:List B.V}(y:∀v,v∈l->jO v)(u:mG p s t a ty l s'):Ng s':=by
 rcases u with⟨c,e,_,_,_,_,_,rfl⟩|⟨_,e,_,rfl⟩
 .have i:Ng (s.pq e c ty l):=⟨h.F,Ng.lay h.M c y,h.O⟩;exact i.dM _<|Ng.set (λb=>h.at t _ b) a jO.z
 have i:Ng (s.dy t (s.T t).stop):=h.dy<|λf o=>h.F t f o;exact i.same
def Ng.two(h:Ng s){o a b c:Nat}{why:Int}(e:xu s t o a b c why s'):Ng s':=by
 rcases e with⟨_,_,rfl⟩|⟨_,_,rfl⟩
 .exact h.oZ _ a<|jO.arith _ _ _
 exact h
theorem B1(h:Ng s)(x:B.V):jO (fD s x).2.1:=by
 grind[fD,jO.z,F.Ng.slot]
theorem Ng.inst(h:Ng s){k:F.vV}{why:Int}(hR:Rn p s t)(hn:s.nt+1<=500000000)(J:LR p (bz s t).f k)(hi:ku p s t k why s'):Ng s':=by
 obtain⟨i,a,b,c⟩:=k;obtain⟨k1,k2,G,H,_⟩:=J;simp only at k1 k2 G H;have o:∀a,jO<|(bz s t).R a:=λa=>h.at t _ a;have W:=pS 22 i af
 repeat' rcases W with rfl|W
 .rw[hi.2];exact h.oZ _ _<|jO.wide G H
 .rw[hi.2];exact h.oZ _ _<|o _
 .exact h.two hi
 .exact h.two hi
 .exact h.two hi
 .exact h.two hi
 .rw[hi.2];refine h.oZ _ _ ?_;grind[jO.n,jO.z]
 .rw[hi.2];exact h.dM _ o
 .rw[hi.2];exact h.dM _ o
 .exact h.made (λv y=>by grind[jO.z]) hi.2
 .rcases hi with⟨_,_,e⟩|⟨_,_,e⟩
  .grind[F.Ng.oZ,F.Ng.slot]
  grind
 .rcases hi with⟨_,_,e⟩|⟨_,_,e⟩
  .rw[e];exact⟨h.F,Ng.lay h.M _ (λv y=>by
    grind[List.mem_or_eq_of_mem_set,F.Ng.M]),h.O⟩
  grind
 .exact h.made (λv y=>by grind) hi.2
 .rw[hi.2];grind[mH,Ng.iz,B1,F.Ng.push]
 .rw[hi.2];exact h.back _<|o _
 .rw[hi.2];grind[lR,B1,Ng.set,jO.n,F.Ng.dM,F.Ng.born]
 .rw[hi.2];exact h.join _ _ _
 .rw[hi.2];grind[jk,F.Ng.iw]
 .rw[hi.2];unfold jd;split
  .split
   .show Ng (match ie s ((bz s t).R b).2 with|some u=>s.wait 5 u t (18,a,b,c)|none=>_);grind[jO.getD,F.Ng.wait,F.Ng.oZ,F.Ng.O]
   exact h
  exact h
 .rw[hi.2];unfold iu;split
  .split
   .show Ng (match ie s ((bz s t).R a).2 with|some u=>s.leave u (0,-100) 4 0|none=>s);grind[jO.n,F.Ng.leave]
   exact h
  exact h
 .rw[hi.2];unfold jY;split
  .exact h.same
  exact h
 .rw[hi.2];unfold kM;split
  .split
   .show Ng (match s.fA ((bz s t).R b).2.toNat with|x :: bs=>_|[]=>_);split
    .rename_i x bs e;have Z:=(hR.ok.bt _).2 x (by rw[e];simp);exact h.same.dM _<|Ng.set o _<|jO.n af af
    exact h.wait _ _ _ _
   exact h
  exact h
 rw[hi.2];exact h.oZ _ _<|jO.n (gD hR.ok.c0)<|gD hR.ok.c1
def Ng.start(h:Ng s)(t:Nat):Ng (s.start t):=by
 have e:=h.same (λv=>kE _ t v) (gI _ t).2.2.2.2.2.2.2.2.1 (gI _ t).2.1;exact e.dy<|λf i=>e.F t f i
theorem Ng.ends(p:dH)(t:Nat):∀(n:Nat) {s:Pl},Ng s->Ng (s.ends p t n)
 |0,_,h=>h
 | n+1,s,h=>by
  unfold Pl.ends;split
  .exact Ng.ends p t n<|h.back t jO.z
  exact h
theorem Ng.gL(h:Ng s)(t:Nat):Ng (s.gL t):=h.dM _<|λa=>h.at t _ a
theorem Ng.iC:∀(l:List Nat) {s:Pl},Ng s->Ng (s.iC l)
 | [],_,h=>h
 | t :: l,s,h=>by
  unfold Pl.iC;split
  .exact Ng.iC l<|h.join 2 0 t
  exact h
theorem Ng.fg:∀(l:List (Int×Nat)) {s:Pl},(∀x,x∈l->x.2<256)->Ng s->Ng (s.fg l)
 | [],_,_,h=>h
 | x :: l,s,hl,h=>by
  show Ng ((s.recv x).fg l);refine Ng.fg l (λy e=>hl y<|by simp[e]) ?_;unfold Pl.recv;split
  .unfold Pl.pG;split
   .exact h.gk _<|jO.n af (by have:=hl x eG;omega)
   split
   .exact h.same
   exact h
  exact h
end F
namespace F
variable {p:dH}{s s' x:Pl}{t:Nat}
theorem pQ(n:Nat)(h:¬((s.T t).run=true/\(bz s t).nx=p.len (bz s t).f)):s.ends p t n=s:=by
 cases n with
 |zero=>rfl
 |succ n=>unfold Pl.ends;grind
theorem Rn.back(h:Rn p s t)(i:de s t≠0):Rn p (s.back t (0,0)) t/\((s.back t (0,0)).T t).fr.length+1=(s.T t).fr.length:=by
 have e:=(oH h.ok.lw h.ht (0,0)).2 i;let⟨o,G,y,u⟩:=(nO s t (0,0)).2 i;exact⟨⟨h.ok.back h.lv h.wh<|dV.num 0,eZ o h.lv,eZ e.1 h.run⟩,by grind[F.Rn.hi]⟩
theorem oG(h:Rn p s t)(e:de s t=0):((s.back t (0,0)).T t).run=false:=(oH h.ok.lw h.ht (0,0)).1 e
theorem xf:∀(n:Nat) {s:Pl},((s.T t).run=true->Rn p s t)->((s.T t).run=true->(s.T t).fr.length<=n)->s.ends p t n=s.ends p t (n+1)
 | 0,s,h,hl=>by
  grind[pQ,F.Rn.hi]
 | n+1,s,h,hl=>by
  by_cases e:(s.T t).run=true/\(bz s t).nx=p.len (bz s t).f
  .have hR:=h e.1;have y:s.ends p t (n+1)=(s.back t (0,0)).ends p t n:=by show Pl.ends p t (n+1) s=_;unfold Pl.ends;rw[bf e];cases n<;>rfl
   have u:s.ends p t (n+1+1)=(s.back t (0,0)).ends p t (n+1):=by show Pl.ends p t (n+1+1) s=_;rw[Pl.ends,bf e]
   rw[y,u];by_cases o:de s t=0
   .grind[oG,pQ]
   let⟨k1,k2⟩:=hR.back o;exact xf n (λ_=>k1)<|λ_=>by grind
  grind[pQ]
theorem DF(h:Rn p s t)(e:(bz s t).nx=p.len (bz s t).f):s.ends p t 21=(s.back t (0,0)).ends p t 21:=by
 have u:s.ends p t 21=(s.back t (0,0)).ends p t 20:=by show Pl.ends p t (20+1) s=_;rw[Pl.ends,bf ⟨h.run,e⟩]
 rw[u];refine xf 20 (λi=>?_)<|λi=>?_
 .grind[de,oG,F.Rn.back]
 by_cases o:de s t=0
 .grind[oG]
 have:=(h.back o).2;have:=h.fw.n2;omega
theorem qh{k:Nat}(h:hZ p t k x s')(e:(x.T t).run=false):s'=x:=by
 cases k with
 |zero=>exact h
 |succ k=>
  unfold hZ at h;grind
theorem CK{k:Nat}(h:Rn p s t)(e:(bz s t).nx=p.len (bz s t).f)(u:hZ p t (k+1) s s'):(de s t=0->s'=s.back t (0,0))/\(de s t≠0->hZ p t (k+1) (s.back t (0,0)) s'):=by
 unfold hZ at u;rw[bf h.run]at u;obtain⟨x,i,G⟩:=u;unfold jv at i;rw[DF h e]at i;constructor
 .intro y;have o:=oG h y;rw[pQ 21 (λh=>by grind),av ey]at i;grind[qh]
 intro y;unfold hZ;rw[bf (h.back y).1.run];exact⟨x,i,G⟩
theorem CJ{k:Nat}(h:Rn p s t)(e:(bz s t).nx≠p.len (bz s t).f)(i:hZ p t (k+1) s s'):∃why s3,ku p (s.gL t) t (p.ins (bz s t).f (bz s t).nx) why s3/\hZ p t k (if why=0 then s3 else s3.leave t (0,-why) 3 why) s':=by
 unfold hZ at i;rw[bf h.run]at i;obtain⟨x,o,y⟩:=i;unfold jv at o;rw[pQ 21<|λh=>e h.2,bf h.run]at o;obtain⟨why,s3,u,rfl⟩:=o;grind
theorem Go.PE{t c:Nat}{s s':Pl}(h:Go t c s s'):s'.ev.length<=s.ev.length+c:=by
 obtain⟨l,e,i,_⟩:=h;grind
end F
namespace D
open F
variable {p:dH}{d:Dp}{K:Nat}{s:Pl}{m m':Dm}{g g':Dg}{w w':aa}{ρ:Nat->Nat}
def dZ.Mz{p:Dp}(h:dZ p m g w)(u:dN (λk=>k=g.mb) w w')(e:m'.nt=m.nt/\m'.T=m.T/\m'.q=m.q/\m'.fA=m.fA/\m'.nc=m.nc/\m'.M=m.M/\m'.ck=m.ck/\m'.ev=m.ev)(G:Full w' g.mb 112 24 24 (mE p m' g)):Tr p m g w m' g w':=by
 obtain⟨a1,a2,a3,a4,a5,Z,a7,a8⟩:=m;obtain⟨b1,Y,W,b4,J,b6,b7,b8⟩:=m';simp only at e;obtain⟨rfl,rfl,rfl,rfl,rfl,rfl,rfl,rfl⟩:=e;refine h.one 0 0 0 rfl (λx y z=>rfl) u (λx y z i hn=>?_) G (λk o=>ag o);exact ok_eq (e0:=λe=>dr e<|λe=>hn ⟨e,lI i<|ag af⟩) (hx:=mB i)
def Dc.oJ(c:Dc)(n N:Nat):Dc:=if c.bg=true then c else {c with bg:=true,kR:=wrap64<|(N:Int)+(n:Int),sure:=N}
def Dc.DY(c:Dc)(wk:Nat):Int:=if c.kR<(wk:Int) then c.kR else(wk:Int)
def Dc.wv(c:Dc)(wk:Nat):Dc:={c with kR:=wrap64<|c.kR-c.DY wk,eL:=wrap64 (c.eL+c.DY wk)}
def Dc.fin(c:Dc):Dc:=if c.kR=0 then {c with bg:=false,qH:=wrap64<|c.qH+1,kL:=c.sure} else c
def Dc.pT(c:Dc)(n wk N:Nat):Dc:=if c.fu=true then c else((c.oJ n N).wv wk).fin
def fP{b:Nat}{S:Nat->Prop}(hS:S b){w0 w:aa}(h:dN S w0 w)(o:Nat)(v:Value):dN S w0 (w.setCell (az b o) v):=bq h (ag hS) _
def pj(d:Dp)(m:Dm)(g:Dg)(w w':aa):Prop:=∃N:Nat,(m.G.fu=false->m.G.bg=false->lA d m N)/\Tr d m g w (m.jB<|m.G.pT d.n d.wk N) g w'
def pj.mk'{G:Dc}{w2:aa}{N:Nat}(h:dZ d m g w)(e:w.grownBy w2 none)(i:m.G.fu=false->m.G.bg=false->lA d m N)(hG:m.G.pT d.n d.wk N=G)(u:dN (λk=>k=g.mb) w2 w')(o:Full w' g.mb 112 24 24 (mE d (m.jB G) g)):pj d m g w w':=by
 refine⟨N,i,?_⟩;rw[hG];exact(dZ.Mz (m':=m.jB G) (h.kept e) u ⟨rfl,rfl,rfl,rfl,rfl,rfl,rfl,rfl⟩ o).ahead e
theorem Nr(h:dZ d m g w)(y:Cl d m)(i:m.G.fu=true):eN 146 #[P0 g.mb] w λw'=>pj d m g w w':=by
 let⟨o,a5⟩:=h.mc 23 af (v:=.bool m.G.fu) rfl;have le:=h.M.lt;have HR:=bj h;have W:=bj<|om h y;have q0:=dL 0 af;rw[i]at o;have u:=bj i;delta eN;go_in;go_wp2
 refine dg (results_none rfl _ _ _) rfl ?_;refine⟨rfl,0,λe=>(by grind),?_⟩;have e:m.jB (m.G.pT d.n d.wk 0)=m:=by
  unfold Dc.pT;rw[bf u.out];rfl
 grind[Tr.refl]
theorem Np(h:dZ d m g w)(hC:Cl d m)(hf:m.G.fu=false)(hb:m.G.bg=true):Calls prog 146 #[P0 g.mb] w λe w'=>e=.returned (.tuple #[])/\pj d m g w w':=by
 let⟨c3,_⟩:=h.mc 3 af (v:=.int .i64 d.wk) rfl;let⟨a1,a4⟩:=h.mc 17 af (v:=.bool m.G.bg) rfl;let⟨a2,a7⟩:=h.mc 18 af (v:=.int .i64 m.G.kR) rfl;let⟨aD,a8⟩:=h.mc 19 af (v:=.int .i64 m.G.sure) rfl;let⟨aE,a3⟩:=h.mc 20 af (v:=.int .i64 m.G.kL) rfl;let⟨aC,a6⟩:=h.mc 21 af (v:=.int .i64 m.G.eL) rfl;let⟨aB,aA⟩:=h.mc 22 af (v:=.int .i64 m.G.qH) rfl;let⟨a0,a5⟩:=h.mc 23 af (v:=.bool m.G.fu) rfl;have le:=h.M.lt;have Y:=bj h;have a9:=bj<|om h hC;rw[hf]at a0;have Z:=bj hf;rw[hb]at a1;have u:=bj hb;have HM:=bj Y.M;generalize hl:m.G.kR=kR at*;generalize hu:m.G.eL=eL at*;generalize y:m.G.qH=qH at*;have o:=bj<|bh hl<|bh hu y;by_cases J:kR<(d.wk:Int)
 .go_in;go_wp2_with fail
  go_end0;refine⟨rfl,pj.mk' (N:=0) (G:={m.G with kR:=0,eL:=wrap64<|eL+kR,bg:=false,qH:=wrap64<|qH+1,kL:=m.G.sure}) Y (aw _ _) (λ_ e=>by grind) (by grind[Dc.pT,Dc.oJ,Dc.wv,Dc.DY,Dc.fin,IntWalk.wrap64_in]) (fP (b:=g.mb) (S:=λk=>k=g.mb) rfl (fP (b:=g.mb) (S:=λk=>k=g.mb) rfl (fP (b:=g.mb) (S:=λk=>k=g.mb) rfl (fP (b:=g.mb) (S:=λk=>k=g.mb) rfl (fP (b:=g.mb) (S:=λk=>k=g.mb) rfl (dx _ _) 18 _) 21 _) 17 _) 22 _) 20 _)<|((((((HM).eE 18 _).eE 21 _).eE 17 _).eE 22 _).eE 20 _).congr (λi hi=>?_)⟩;have H:i=0\/i=1\/i=2\/i=3\/i=4\/i=5\/i=6\/i=7\/i=8\/i=9\/i=10\/i=11\/i=12\/i=13\/i=14\/i=15\/i=16\/i=17\/i=18\/i=19\/i=20\/i=21\/i=22\/i=23:=af
  (repeat' rcases H with rfl|H)<;>rfl
 have W:=bj J;by_cases hz:wrap64 (kR-(d.wk:Int))=0
 .go_in;go_wp2_with fail
  go_end0;refine⟨rfl,pj.mk' (N:=0) (G:={m.G with kR:=0,eL:=wrap64<|eL+(d.wk:Int),bg:=false,qH:=wrap64<|qH+1,kL:=m.G.sure}) Y (aw _ _) (λ_ e=>by grind) (by simp_all[Dc.pT,Dc.oJ,Dc.wv,Dc.DY,Dc.fin,av]) (fP (b:=g.mb) (S:=λk=>k=g.mb) rfl (fP (b:=g.mb) (S:=λk=>k=g.mb) rfl (fP (b:=g.mb) (S:=λk=>k=g.mb) rfl (fP (b:=g.mb) (S:=λk=>k=g.mb) rfl (fP (b:=g.mb) (S:=λk=>k=g.mb) rfl (dx _ _) 18 _) 21 _) 17 _) 22 _) 20 _)<|((((((HM).eE 18 _).eE 21 _).eE 17 _).eE 22 _).eE 20 _).congr (λi hi=>?_)⟩;have H:i=0\/i=1\/i=2\/i=3\/i=4\/i=5\/i=6\/i=7\/i=8\/i=9\/i=10\/i=11\/i=12\/i=13\/i=14\/i=15\/i=16\/i=17\/i=18\/i=19\/i=20\/i=21\/i=22\/i=23:=af
  (repeat' rcases H with rfl|H)<;>rfl
 go_in;go_wp2_with fail
 go_end0;refine⟨rfl,pj.mk' (N:=0) (G:={m.G with kR:=wrap64<|kR-(d.wk:Int),eL:=wrap64 (eL+(d.wk:Int))}) Y (aw _ _) (λ_ e=>by grind) (by simp_all[Dc.pT,Dc.oJ,Dc.wv,Dc.DY,Dc.fin,av]) (fP (b:=g.mb) (S:=λk=>k=g.mb) rfl (fP (b:=g.mb) (S:=λk=>k=g.mb) rfl (dx _ _) 18 _) 21 _)<|(((HM).eE 18 _).eE 21 _).congr (λi hi=>?_)⟩;have H:i=0\/i=1\/i=2\/i=3\/i=4\/i=5\/i=6\/i=7\/i=8\/i=9\/i=10\/i=11\/i=12\/i=13\/i=14\/i=15\/i=16\/i=17\/i=18\/i=19\/i=20\/i=21\/i=22\/i=23:=af
 (repeat' rcases H with rfl|H)<;>rfl
def lA.le{N:Nat}(h:lA d m N)(i:Cl d m):N<=m.nc:=by
 obtain⟨l,u,o,rfl⟩:=h;exact gR m.nc l u<|λc e=>⟨(i.c c<|(o c).1 e).1,(i.c c<|(o c).1 e).2.1⟩
theorem Nq(h:dZ d m g w)(hC:Cl d m)(hf:m.G.fu=false)(hb:m.G.bg=false)(b7:d.n<=1000000):eN 146 #[P0 g.mb] w λw'=>pj d m g w w':=by
 obtain⟨c1,_⟩:=h.mc 1 af (v:=ah d.n) rfl;obtain⟨c3,_⟩:=h.mc 3 af (v:=ah d.wk) rfl;obtain⟨Z,a1⟩:=h.mc 17 af (v:=.bool m.G.bg) rfl;obtain⟨aG,a6⟩:=h.mc 18 af (v:=ah m.G.kR) rfl;obtain⟨aE,a9⟩:=h.mc 19 af (v:=ah m.G.sure) rfl;obtain⟨aF,aH⟩:=h.mc 20 af (v:=ah m.G.kL) rfl;obtain⟨aK,a2⟩:=h.mc 21 af (v:=ah m.G.eL) rfl;obtain⟨aI,aC⟩:=h.mc 22 af (v:=ah m.G.qH) rfl;obtain⟨a3,aU⟩:=h.mc 23 af (v:=.bool m.G.fu) rfl;have le:=h.M.lt;change Hid _ at h;have aB:=bj<|om h hC;have a4:=bj<|bh (λN (hN:lA d m N)=>hN.le hC) hC.n2;clear hC;rw[hf]at a3;have HF:=bj hf;clear hf;rw[hb]at Z;have HB:=bj hb;clear hb;generalize hu:m.G.eL=eL at*;generalize a5:m.G.qH=qH at*;have H:=bj<|bh hu a5;clear hu a5;delta eN;go_in;go_wp2_with fail
 refine aB.mono ?_;rintro e w2 ⟨N,rfl,hN,u⟩;change Hid _ at u;have HN:=bj hN;have HM:=bj<|(h.kept u).M;have e1:=(ay u (a:=az g.mb 1) le).1.trans c1;have e3:=(ay u (a:=az g.mb 3) le).1.trans c3;have aQ:=(ay u (a:=az g.mb 17) le).1.trans Z;have aN:=(ay u (a:=az g.mb 17) le).2.trans a1;have aM:=(ay u (a:=az g.mb 18) le).1.trans aG;have aV:=(ay u (a:=az g.mb 18) le).2.trans a6;have aP:=(ay u (a:=az g.mb 19) le).1.trans aE;have aW:=(ay u (a:=az g.mb 19) le).2.trans a9;clear aB c1 c3 Z aG aE aF aK aI a3 a1 a6 a9 aH a2 aC aU;have aZ:N<=1000000000:=by have h1:=a4.1 N hN;have h2:=a4.2;omega
 clear hN;have qb:IntKind.i64.wrap ((N:Int)+(d.n:Int))=(N:Int)+(d.n:Int):=jA
 have QW:Hid (wrap64 ((N:Int)+(d.n:Int))=(N:Int)+(d.n:Int)):=dL _ af;go_upto_region 8 with fail
 generalize hl:(N:Int)+(d.n:Int)=kR at*;have HL:Hid (wrap64 ((N:Int)+(d.n:Int))=kR):=(congrArg wrap64 hl).trans QW;clear hl;have o:Hid (Full (((w2.setCell (az g.mb 17)<|.bool true).setCell (az g.mb 18)<|ah kR).setCell (az g.mb 19)<|ah N) g.mb 112 24 24<|eE (eE (eE (mE d m g) 17<|.bool true) 18<|ah kR) 19<|ah N):=((HM.eE 17 _).eE 18 _).eE 19 _;have a0:Hid (dN (λk=>k=g.mb) w2<|((w2.setCell (az g.mb 17)<|.bool true).setCell (az g.mb 18)<|ah kR).setCell (az g.mb 19)<|ah N):=fP (b:=g.mb) (S:=λk=>k=g.mb) rfl (fP (b:=g.mb) (S:=λk=>k=g.mb) rfl (fP (b:=g.mb) (S:=λk=>k=g.mb) rfl (dx _ _) 17 _) 18 _) 19 _;clear e1 e3 aQ aM aP aN aV aW;generalize (((w2.setCell (az g.mb 17)<|.bool true).setCell (az g.mb 18)<|ah kR).setCell (az g.mb 19)<|ah N)=y at*;have J:dW y g.mb 17=some (.bool true)/\y.frozen? (az g.mb 17)=false:=o.cells 17 af;have aD:dW y g.mb 18=some (ah kR)/\y.frozen? (az g.mb 18)=false:=o.cells 18 af;have a8:dW y g.mb 19=some (ah N)/\y.frozen? (az g.mb 19)=false:=o.cells 19 af;have a7:dW y g.mb 20=some (ah m.G.kL)/\y.frozen? (az g.mb 20)=false:=o.cells 20 af;have W:dW y g.mb 21=some (ah m.G.eL)/\y.frozen? (az g.mb 21)=false:=o.cells 21 af;have Y:dW y g.mb 22=some (ah m.G.qH)/\y.frozen? (az g.mb 22)=false:=o.cells 22 af;rw[H.1]at W;rw[H.2]at Y;obtain⟨J,b1⟩:=J;obtain⟨aD,b5⟩:=aD;obtain⟨a8,b6⟩:=a8;obtain⟨a7,b3⟩:=a7;obtain⟨W,b0⟩:=W;obtain⟨Y,b2⟩:=Y;by_cases aA:kR<(d.wk:Int)
 .go_wp2
  go_end0;refine⟨rfl,pj.mk' (N:=N) (G:={m.G with kR:=0,sure:=N,eL:=wrap64<|eL+kR,bg:=false,qH:=wrap64<|qH+1,kL:=N}) h u (λ_ _=>HN) (by simp[Dc.pT,Dc.oJ,Dc.wv,Dc.DY,Dc.fin,HF.out,HB.out,H.1,H.2,HL.out,aA,dL 0 af]) (fP (b:=g.mb) (S:=λk=>k=g.mb) rfl (fP (b:=g.mb) (S:=λk=>k=g.mb) rfl (fP (b:=g.mb) (S:=λk=>k=g.mb) rfl (fP (b:=g.mb) (S:=λk=>k=g.mb) rfl (fP (b:=g.mb) (S:=λk=>k=g.mb) rfl (a0) 18 _) 21 _) 17 _) 22 _) 20 _)<|((((((o).eE 18 _).eE 21 _).eE 17 _).eE 22 _).eE 20 _).congr (λi hi=>?_)⟩;have hc:=pS 23 i af
  rcases hc with rfl|rfl|rfl|rfl|rfl|rfl|rfl|rfl|rfl|rfl|rfl|rfl|rfl|rfl|rfl|rfl|rfl|rfl|rfl|rfl|rfl|rfl|rfl|rfl<;>rfl
 have aJ:=bj aA;by_cases hz:wrap64 (kR-(d.wk:Int))=0
 .go_wp2
  go_end0;refine⟨rfl,pj.mk' (N:=N) (G:={m.G with kR:=0,sure:=N,eL:=wrap64<|eL+(d.wk:Int),bg:=false,qH:=wrap64<|qH+1,kL:=N}) h u (λ_ _=>HN) (by simp[Dc.pT,Dc.oJ,Dc.wv,Dc.DY,Dc.fin,HF.out,HB.out,H.1,H.2,HL.out,av (by omega:¬kR<(d.wk:Int)),hz]) (fP (b:=g.mb) (S:=λk=>k=g.mb) rfl (fP (b:=g.mb) (S:=λk=>k=g.mb) rfl (fP (b:=g.mb) (S:=λk=>k=g.mb) rfl (fP (b:=g.mb) (S:=λk=>k=g.mb) rfl (fP (b:=g.mb) (S:=λk=>k=g.mb) rfl (a0) 18 _) 21 _) 17 _) 22 _) 20 _)<|((((((o).eE 18 _).eE 21 _).eE 17 _).eE 22 _).eE 20 _).congr (λi hi=>?_)⟩;have hc:=pS 23 i af
  rcases hc with rfl|rfl|rfl|rfl|rfl|rfl|rfl|rfl|rfl|rfl|rfl|rfl|rfl|rfl|rfl|rfl|rfl|rfl|rfl|rfl|rfl|rfl|rfl|rfl<;>rfl
 go_wp2
 go_end0;refine⟨rfl,pj.mk' (N:=N) (G:={m.G with kR:=wrap64<|kR-(d.wk:Int),sure:=N,eL:=wrap64<|eL+(d.wk:Int),bg:=true}) h u (λ_ _=>HN) (by simp[Dc.pT,Dc.oJ,Dc.wv,Dc.DY,Dc.fin,HF.out,HB.out,H.1,H.2,HL.out,av (by omega:¬kR<(d.wk:Int)),hz]) (fP (b:=g.mb) (S:=λk=>k=g.mb) rfl (fP (b:=g.mb) (S:=λk=>k=g.mb) rfl (a0) 18 _) 21 _)<|(((o).eE 18 _).eE 21 _).congr (λi hi=>?_)⟩;have hc:=pS 23 i af
 rcases hc with rfl|rfl|rfl|rfl|rfl|rfl|rfl|rfl|rfl|rfl|rfl|rfl|rfl|rfl|rfl|rfl|rfl|rfl|rfl|rfl|rfl|rfl|rfl|rfl<;>rfl
theorem Gi(h:dZ d m g w)(i:Cl d m)(o:d.n<=1000000):eN 146 #[P0 g.mb] w λw'=>pj d m g w w':=by
 grind[Nr,Np,Nq]
end D
section
namespace B
theorem rj{M:Nat->List V} {n:Nat}:∀ (u:Nat) (kd:Kd),kd.un<=(eL M n u kd).un/\(eL M n u kd).un<=kd.un+u/\kd.cc<=(eL M n u kd).cc/\(eL M n u kd).cc<=kd.cc+u/\(eL M n u kd).fo=kd.fo
  |0,kd=>⟨bm _,bm _,bm _,bm _,rfl⟩
  | u+1,kd=>by
    unfold eL
    cases hc:kd.cy with
    |none=>grind
    |some c=>
      simp only[]
      split
      · have:=rj (M:=M) (n:=n) u ⟨(unit M kd.on c).1,none,kd.un+1,kd.fo,kd.cc+1⟩
        grind
      · have:=rj (M:=M) (n:=n) u ⟨(unit M kd.on c).1,some (unit M kd.on c).2,kd.un+1,kd.fo,kd.cc⟩
        grind
theorem wF{M:Nat->List V} {n:Nat} (hn:1<=n):∀ (u:Nat) (kd:Kd) (c:Cy) (T:Nat->Prop) (S L:Nat),kd.cy=some c->c.nx<n->gE kd.on n M c T->sE n M c S L →
    (eL M n u kd).un=kd.un+min u L/\jo (eL M n u kd).on n<=jo kd.on n ∧
    ((L<=u/\(eL M n u kd).cy=none/\(eL M n u kd).cc=kd.cc+1/\jo (eL M n u kd).on n=S) ∨
     (u<L/\(eL M n u kd).cc=kd.cc/\S<=jo (eL M n u kd).on n/\∃ c',(eL M n u kd).cy=some c'/\sE n M c' S (L - u)))
  | 0,kd,c,T,S,L,hc,hx,hs,hN=>by
    have:=hN.pos hs hx
    exact⟨by simp[eL],bm _,ak ⟨this,rfl,hN.NS hs,c,hc,hN⟩⟩
  | u+1,kd,c,T,S,L,hc,hx,hs,hN=>by
    have hp:=hN.pos hs hx
    have hs':=qf hs hx
    have hN':=hN.unit hs hx
    have ho:jo (unit M kd.on c).1 n<=jo kd.on n:=E9 (fun p hp=>nG hp) n
    have e:eL M n (u+1) kd=eL M n u (if (unit M kd.on c).2.nx=n then ⟨(unit M kd.on c).1,none,kd.un+1,kd.fo,kd.cc+1⟩ else ⟨(unit M kd.on c).1,some (unit M kd.on c).2,kd.un+1,kd.fo,kd.cc⟩):=by
      show (match kd.cy with | none=>kd | some c=>_)=_
      rw[hc]
    rw[e]
    by_cases hq:(unit M kd.on c).2.nx=n
    · rw[bf hq,qL rfl]
      grind[B.sE.zero]
    · rw[av hq]
      have hlt:(unit M kd.on c).2.nx<n:=by have:=hs'.hh;omega
      obtain⟨a1,a2,a3⟩:=wF hn u ⟨(unit M kd.on c).1,some (unit M kd.on c).2,kd.un+1,kd.fo,kd.cc⟩ _ T S (L - 1) rfl hlt hs' hN'
      grind
end B
namespace D
open Go.RowKit
variable {n K wk N:Nat}{kd:B.Kd}{M:Nat->List B.V}{G:Dc}
def D4(a b:Int):wrap64 (wrap64 a+b)=wrap64 (a+b):=by unfold wrap64;omega
theorem xl{x:Int}(i:0<=x)(e:x<9223372036854775808):wrap64 x=x:=dL x af
theorem xm(kd:B.Kd)(L:List B.V)(M:Nat->List B.V)(n wk:Nat):kd.un<=(B.work (B.xH L) L.length M n wk kd).un/\(B.work (B.xH L) L.length M n wk kd).un<=kd.un+wk/\kd.cc<=(B.work (B.xH L) L.length M n wk kd).cc/\(B.work (B.xH L) L.length M n wk kd).cc<=kd.cc+wk/\(B.work (B.xH L) L.length M n wk kd).fo=kd.fo:=by
 unfold B.work
 cases hc:kd.cy with
 |none=>exact B.rj wk {kd with cy:=some (B.begun (B.xH L) L.length)}
 |some c=>grind[B.rj]
theorem Nm.Jh(h:Nm n K kd M G)(J:G.fu=true)(L:List B.V):Nm n K (B.work (B.xH L) L.length M n wk kd) M G:=by
 have H:=xm kd L M n wk;have W:=h.b;let⟨x,Y,i⟩:=h.u;let⟨y,Z,o⟩:=h.c;exact⟨af,⟨x,af,i⟩,⟨y,af,o⟩,λe=>by grind⟩
theorem Nm.work(h:Nm n K kd M G){L:List B.V}(hH:B.kQ kd n L M)(hn:1<=n)(hn2:n<=1000000)(hN:G.fu=false->G.bg=false->∃l:List Nat,l.Nodup/\(∀c,c∈l↔B.nz L M c)/\N=l.length):Nm n K (B.work (B.xH L) L.length M n wk kd) M (G.pT n wk N):=by
 have hbd:=xm kd L M n wk;have k3:=h.b
 cases hf:G.fu with
 |true=>
  have e:G.pT n wk N=G:=bf hf;grind[D.Nm.Jh]
 |false=>
  have hq:=h.e hf;have key:∃(tX:B.Kd) (c:B.Cy) (T:Nat->Prop) (L0:Nat),B.work (B.xH L) L.length M n wk kd=B.eL M n wk tX/\tX.cy=some c/\c.nx<n/\B.gE tX.on n M c T/\B.sE n M c (G.oJ n N).sure L0/\(G.oJ n N).kR=L0/\tX.on=kd.on/\tX.un=kd.un/\tX.cc=kd.cc/\tX.fo=kd.fo:=by
   cases hc:kd.cy with
   |none=>
    have hb:G.bg=false:=by rw[hq.bg,hc];rfl
    obtain⟨l,l1,l2,rfl⟩:=hN hf hb;have hle:l.length<=n:=by
     have:=B.tg (on:=kd.on) (n:=n) l l1 (λp hp=>by have:=B.nJ hH<|(l2 p).1 hp;grind);have:=B.kY kd.on n;omega
    have eb:G.oJ n l.length={G with bg:=true,kR:=wrap64<|(l.length:Int)+(n:Int),sure:=l.length}:=by
     unfold Dc.oJ;rw[av ey]
    refine⟨{kd with cy:=some (B.begun (B.xH L) L.length)},_,_,l.length+n,by grind[B.work],rfl,by show 0<n;omega,B.oQ (kd:=kd) (s:=B.n6 L M) hH,?_,?_,rfl,rfl,rfl,rfl⟩
    .rw[eb];exact B.C2 (s:=B.n6 L M) hH l1 l2
    grind[wrap64,xl]
   |some c=>
    let⟨hx,T,hT,hs⟩:=hH.h3 c hc;let⟨L0,e0,hM⟩:=hq.cy c hc;have eb:G.oJ n N=G:=bf (by rw[hq.bg,hc];rfl);exact⟨kd,c,T,L0,by grind[B.work],hc,hx,hs,ey,ey,rfl,rfl,rfl,rfl⟩
  obtain⟨tX,c,T,L0,ew,hc,hx,hs,hM,el,eon,eun,ecc,efo⟩:=key;rw[ew]at hbd⊢;have hU:(G.oJ n N).eL=wrap64 kd.un/\(G.oJ n N).qH=wrap64 kd.cc/\(G.oJ n N).fu=false/\(G.oJ n N).kL=G.kL/\(G.oJ n N).bg=true:=by
   unfold Dc.oJ;split
   .grind[D.Nn.un,D.Nn.cc]
   exact⟨hq.un,hq.cc,hf,rfl,rfl⟩
  obtain⟨u1,u2,u3,u4,u5⟩:=hU;have hL0:L0<=2000000:=by
   obtain⟨l,l1,l2,l3,l4⟩:=hM;have hlen:=hs.sum;have:l.length<=n:=by
    have:=B.tg (on:=tX.on) (n:=n) l l1<|λp hp=>hs.ha p<|(hs.LV p).2<|(l2 p).1 hp;have:=B.kY tX.on n;omega
   omega
  have hp:=hM.pos hs hx;let⟨a1,a2,a3⟩:=B.wF hn wk tX c T _ L0 hc hx hs hM;rw[eun]at a1;rw[eon]at a2;have ek:(G.oJ n N).DY wk=((min wk L0:Nat):Int):=by
   unfold Dc.DY;rw[el];split<;>omega
  have e1:((G.oJ n N).wv wk).kR=((L0-wk:Nat):Int):=by
   show wrap64 ((G.oJ n N).kR-(G.oJ n N).DY wk)=_;rw[ek,el,xl af af];omega
  have e2:((G.oJ n N).wv wk).eL=wrap64 ((B.eL M n wk tX).un:Int):=by
   show wrap64 ((G.oJ n N).eL+(G.oJ n N).DY wk)=_;rw[ek,u1,a1,D4];congr 1
  have ec:G.pT n wk N=((G.oJ n N).wv wk).fin:=av ey;have e3:((G.oJ n N).wv wk).qH=wrap64 (kd.cc:Int):=u2;rw[ec];rw[ecc]at a3;have ho:=hq.hi;rcases a3 with⟨b1,b2,b3,b4⟩|⟨b1,b2,b3,c',b4,b5⟩
  .have e4:((G.oJ n N).wv wk).fin={(G.oJ n N).wv wk with bg:=false,qH:=wrap64<|((G.oJ n N).wv wk).qH+1,kL:=((G.oJ n N).wv wk).sure}:=by
    unfold Dc.fin;rw[bf af]
   have e5:wrap64 (((G.oJ n N).wv wk).qH+1)=wrap64 ((B.eL M n wk tX).cc:Int):=by
    rw[e3,b3,D4];congr 1
   rw[e4];refine⟨af,⟨_,bm _,e2⟩,⟨_,bm _,e5⟩,λ_=>⟨e2,e5,by grind[D.Nn.fo],?_,?_,ey,λc hc=>by grind⟩⟩
   .show(G.oJ n N).sure<=_;omega
   show _<=(G.oJ n N).sure;omega
  have e4:((G.oJ n N).wv wk).fin=(G.oJ n N).wv wk:=by
   unfold Dc.fin;rw[av af]
  rw[e4];refine⟨af,⟨_,bm _,e2⟩,⟨_,bm _,ey⟩,λ_=>⟨e2,ey,by grind[D.Nn.fo],b3,?_,?_,λc2 hc2=>?_⟩⟩
  .show _<=(G.oJ n N).kL;omega
  .show(G.oJ n N).bg=_;grind
  rw[b4]at hc2
  cases hc2;exact⟨L0-wk,e1,b5⟩
end D
end
namespace F
def CM(s:Pl):Prop:=s.q 3 0≠[]\/∃k,k<4/\s.q 4 k≠[]
open Classical in
noncomputable def Pl.Bh (s:Pl):Int:=if s.sp=true then 5 else if s.lv = [] then 4 else if s.q 2 0 ≠ [] then 1 else if CM s then 2 else 3
end F
namespace D
open F
variable {p:dH}{d:Dp}{K:Nat}{s s':Pl}{m m':Dm}{g g':Dg}{w w':aa}{ρ:Nat->Nat}
def Dm.nC(m:Dm):Dm:={m with ev:=[]}
def oW(m:Dm)(I:Nat):Prop:=∃t,1<=t/\t<=I/\((m.T t).how=2\/(m.T t).how=3)
def oW.yes{I:Nat}(h:oW m I):oW m (I+1):=by
 obtain⟨t,i,o,e⟩:=h;exact⟨t,i,af,e⟩
def oW.new{I:Nat}(h:(m.T<|I+1).how=2\/(m.T<|I+1).how=3):oW m (I+1):=⟨I+1,af,bm _,h⟩
theorem oW.no{I:Nat}(h:¬oW m I)(u:(m.T<|I+1).how≠2)(o:(m.T<|I+1).how≠3):¬oW m (I+1):=by
 rintro⟨t,y,G,i⟩;by_cases e:t=I+1
 .grind
 exact h ⟨t,y,af,i⟩
theorem eF.rest(h:eF p K s m ρ)(o:Ok p s):oW m m.nt↔CM s:=by
 constructor
 .rintro⟨t,Y,W,t3⟩;rcases t3 with e|e
  .left
   grind[D.eF.Nz]
  right
  have ht:=(iP h t).1 ⟨Y,W⟩;rcases h.wh o ((h.how o ht).1 af) with⟨_,i⟩|⟨_,i⟩|⟨_,i⟩|⟨k,G,_,i,e3⟩|⟨u,_,_,i,_⟩
  .omega
  .omega
  .omega
  .have:=(h.Ny o (x:=4) (y:=k) (ak<|ak<|ag ⟨rfl,G⟩)<|ag rfl).1 ⟨⟨Y,W⟩,i,e3⟩;grind
  omega
 rintro(J|⟨k,G,J⟩)
 .let⟨t,ht⟩:=List.exists_mem_of_ne_nil _ J;let⟨⟨Z,a2⟩,H⟩:=(h.Nz o).2 ht;exact⟨t,Z,a2,ag H⟩
 let⟨t,ht⟩:=List.exists_mem_of_ne_nil _ J;let⟨⟨Z,a2⟩,H,_⟩:=(h.Ny o (x:=4) (y:=k) (ak<|ak<|ag ⟨rfl,G⟩)<|ag rfl).2 ht;exact⟨t,Z,a2,ak H⟩
theorem J0(h:dZ d m g w)(hS:eF p K s m.nC ρ)(hO:Ok p s)(a6:s.nt≠0):dC 49 #[P0 g.mb] w (ah s.Bh) λw'=>w.grownBy w' none:=by
 have a8:m.nt=s.nt:=hS.nt;have hn:m.nt≠0:=eZ a8 a6
 obtain⟨tb,hb,hl,hm,hF⟩:=h.T hn;have c6:w.cell? ⟨g.mb,6,none⟩=some (.slice (some ⟨tb,0,none⟩) m.nt (g.ro 1 0).2):=by rw[<-hb];exact(h.mc 6 af rfl).1
 have c7:w.cell? ⟨g.mb,7,none⟩=some (.slice (g.ro 2 0).1 (s.q 2 0).length (g.ro 2 0).2):=by
  have Z:=(h.mc 7 af (v:=.slice (g.ro 2 0).1 m.q.length (g.ro 2 0).2) rfl).1;rw[show m.q=s.q 2 0 from hS.q]at Z;exact Z
 have a5:w.cell? ⟨g.mb,14,none⟩=some (.bool s.sp):=by
  have Z:=(h.mc 14 af (v:=.bool m.sp) rfl).1;rw[show m.sp=s.sp from hS.sp]at Z;exact Z
 have aG:m.nt<=9223372036854775807:=by unfold maxLen at hm;omega
 have a0:Hid (oW m m.nt↔CM s):=hS.rest hO;have a7:Hid (∀w1,w.grownBy w1 none->dC 77 #[P0 g.mb] w1 (ah (s.lv.length:Int)) λw'=>w1.grownBy w' none):=λw1 hg=>by
  refine(Ft (h.kept hg) hn).mono ?_;rintro e w' ⟨N,rfl,_,aA,aE⟩;rw[hS.live hO aA];grind
 have HF:=bj hF;have lt:=hF.lt;have a1:=h.M.lt;clear hF hm hb hl h hS hO a8 a6;generalize g.mb=rb at*;delta dC;go_in;go_wp2_with fail
 go_loopw[3,4] (λr i wr=>∃(b:Bool) (I:Nat),r=.bool b/\i=ah I/\I<=m.nt/\Hid (b=true↔oW m I)/\Hid (w.grownBy wr none)) (λ_ i _=>m.nt-(intOf i).toNat)
 case atStart=>
  refine⟨false,0,rfl,rfl,af,⟨λe=>(by cases e),λe=>?_⟩,aw _ _⟩;obtain⟨t,t1,t2,_⟩:=e;omega
 case round=>
  obtain⟨b,I,rfl,rfl,hI,Y,rG⟩:=hrel;have W:=λ(k:Nat) (W:k<w.heap.size)=>rG.out.block k W ey;have d6:=(bd (a:=⟨rb,6,none⟩)<|W rb a1).trans c6;have H:=HF.out.block<|W tb lt;by_cases aL:I<m.nt
  .have hc:∀k,k<8->wr.cell? ⟨tb,I*8+k,none⟩=some (tC (m.T<|I+1) (js m g 5<|I+1) k):=λk W=>(H.cell (I*8+k) af).trans<|congrArg some<|rp m g (t:=I+1) af W af;have a9:(I:Int)<(m.nt:Int):=af
   have c1:wr.cell? ⟨tb,I*8+1,none⟩=some (ah ((m.T<|I+1).how:Int)):=hc 1 af;clear H hc W
   cases b with
   |true=>
    have KN:Hid (true=true↔oW m (I+1)):=⟨λ_=>(Y.out.1 rfl).yes,λ_=>rfl⟩;clear Y;go_wp2_with fail
    go_roundw
    case rel=>grind
    case measure=>simp[intOf];omega
   |false=>
    have aB:Hid (¬oW m I):=λe=>by have:=Y.out.2 e;grind
    clear Y;by_cases h2:(m.T<|I+1).how=2
    .have KN:Hid (true=true↔oW m (I+1)):=⟨λ_=>oW.new<|ag h2,λ_=>rfl⟩;rw[h2]at c1;clear h2;go_wp2_with fail
     go_roundw
     case rel=>exact⟨true,I+1,rfl,iI,af,KN,rG⟩
     case measure=>simp[intOf];omega
    by_cases h3:(m.T<|I+1).how=3
    .have KN:Hid (true=true↔oW m (I+1)):=⟨λ_=>oW.new<|ak h3,λ_=>rfl⟩;rw[h3]at c1;clear h2 h3;go_wp2_with fail
     go_roundw
     case rel=>exact⟨true,I+1,rfl,iI,af,KN,rG⟩
     case measure=>simp[intOf];omega
    have KN:Hid (false=true↔oW m (I+1)):=⟨λe=>(by cases e),λe=>dr e<|oW.no aB.out h2 h3⟩;generalize (m.T<|I+1).how=hw at*;have aH:((hw:Int) == 2)=false:=lD dY
    have aF:((hw:Int) == 3)=false:=lD dY
    clear h2 h3;go_wp2_with fail
    go_roundw
    case rel=>exact⟨false,I+1,rfl,iI,af,KN,rG⟩
    case measure=>simp[intOf];omega
  obtain rfl:I=m.nt:=by omega
  have a9:¬((m.nt:Int)<(m.nt:Int)):=af
  have HB:Hid (b=true↔CM s):=⟨λe=>a0.out.1<|Y.out.1 e,λe=>Y.out.2<|a0.out.2 e⟩;have a2:=bj<|a7.out wr rG.out;clear H W Y a0 HF;go_wp2_with fail
  refine a2.out.mono ?_;rintro e w2 ⟨rfl,a3⟩;have KG:=bj<|ar rG.out a3;have a4:=(ay KG.out (a:=⟨rb,14,none⟩) a1).1.trans a5;have e7:=(ay KG.out (a:=⟨rb,7,none⟩) a1).1.trans c7;clear a3 a5 c7 c6 d6 a2 a7;have fin:∀x:Int,s.Bh=x->(Ending.returned (ah x)=Ending.returned (ah s.Bh)/\w.grownBy w2 none):=λx e=>⟨by rw[e],KG.out⟩;have G:=bj fin;clear fin
  cases hsp:s.sp with
  |true=>
   have u:=bj hsp;rw[hsp]at a4;clear hsp;go_wp2_with fail
   go_ret;exact G.out 5 (by unfold Pl.Bh;rw[bf u.out])
  |false=>
   have u:Hid (¬s.sp=true):=λe=>by rw[hsp]at e;cases e
   rw[hsp]at a4;clear hsp;by_cases y:s.lv=[]
   .have o:=bj y;have aC:(s.lv.length:Int)=0:=kh y
    clear y;go_wp2_with fail
    go_ret;exact G.out 4 (by unfold Pl.Bh;rw[av u.out,bf o.out])
   have o:=bj y;have aC:((s.lv.length:Int) == 0)=false:=by
    rw[dY];exact λe=>y<|dh.1 af
   clear y;by_cases hq:s.q 2 0=[]
   .have J:=bj hq;rw[hq]at e7;simp only[List.length_nil]at e7;clear hq
    cases b with
    |true=>
     go_wp2_with fail
     go_ret;exact G.out 2 (by unfold Pl.Bh;rw[av u.out,av o.out,av<|λe=>e J.out,bf<|HB.out.1<|by first|exact rfl|trivial])
    |false=>
     go_wp2_with fail
     go_ret;exact G.out 3 (by unfold Pl.Bh;rw[av u.out,av o.out,av<|λe=>e J.out,av (λe=>by have Z:=HB.out.2 e;cases Z)])
   have J:=bj hq;have aJ:(0:Int)<((s.q 2 0).length:Int):=by
    have:(s.q 2 0).length≠0:=λe=>hq<|dh.1 e;omega
   clear hq;go_wp2_with fail
   go_ret;exact G.out 1 (by unfold Pl.Bh;rw[av u.out,av o.out,bf J.out])
end D
namespace F
variable {p:dH}{s s':Pl}
theorem Ng.step{t:Nat}(hP:PI p)(hN:Ng s)(h:Rn p s t)(hn:s.nt+1<=500000000)(i:jv p t s s'):Ng s':=by
 let⟨i1,i2,i3⟩:=uv 21 h<|gD h.fw.n2;have G:=Ng.ends p t 21 hN;unfold jv at i;by_cases e:((s.ends p t 21).T t).run=true
 .rw[bf e]at i;let⟨W,j2,Y⟩:=i2 e;let⟨_,_,_,j5,_⟩:=id j2;obtain⟨why,s3,H,rfl⟩:=i;let⟨Z,o⟩:=oO W Y;have u:=W.ff;have y:=hP _ u.1 (bz (s.ends p t 21) t).nx af;have J:=(G.gL t).inst Z (by show(s.ends p t 21).nt+1<=_;omega) ey H;let⟨w1,w2,_⟩:=pN y.1 H;grind[jO.n,F.Ng.leave]
 grind
theorem Ng.runs{p:dH}{t:Nat}(hP:PI p):∀(n:Nat) {s s':Pl},Ng s->Ok p s->ft s t->s.nt+n<=500000000->hZ p t n s s'->Ng s'
 | 0,s,s',hN,_,_,_,hr=>by
  have e:s'=s:=hr;grind
 | n+1,s,s',hN,h,ht,hn,hr=>by
  unfold hZ at hr;by_cases e:(s.T t).run=true
  .rw[bf e]at hr;obtain⟨s1,o,u⟩:=hr;have hR:Rn p s t:=⟨h,(h.rn t ht e).2,e⟩;let⟨k1,k2⟩:=xA hP hR af o;have i:=k2.nt;exact Ng.runs hP n (hN.step hP hR af o) k1 ⟨ht.1,dQ ht.2 i.1⟩ af u
  grind
theorem Ng.first(hP:PI p)(y:Ng s)(h:Ok p s)(hn:s.nt+p.qn<=500000000)(u:iH p s s'):Ng s':=by
 unfold iH at u
 cases hq:s.q 2 0 with
 |nil=>
  grind
 |cons t r=>
  rw[hq]at u;obtain⟨s1,H,J⟩:=u;have i:=h.ql 2 0 (ag ⟨rfl,rfl⟩) t ey;have ht:=h.lt t i;have o:(s.start t).nt=s.nt:=gl s t;have G:Ng s1:=Ng.runs hP p.qn (y.start t) (h.start i) ⟨ht.1,eZ o ht.2⟩ af H;grind[F.Ng.join]
theorem Ng.G6(hP:PI p){ticks:Int}{l:List (Int×Nat)}(J:Ng s)(h:Ok p s)(h0:0<=B.iL s.clk ticks)(H:B.iL s.clk ticks<=9223372036854775807)(i:∀x,x∈l->x.2<256)(hn:s.nt+p.qn<=500000000)(ht:jX p s ticks l s'):Ng s':=by
 have e:Ng ((s.gw<|B.iL s.clk ticks).fg l):=Ng.fg l i J.same;let⟨u,G⟩:=oj l i<|h.gw h0 H;unfold jX at ht;split at ht
 .obtain⟨s1,Z,rfl⟩:=ht;let⟨y,o⟩:=py _ u rfl;exact(Ng.first hP (Ng.iC _ e) y (by rw[o.nt,G.nt];exact hn) Z).same
 grind
