import Derived.Test.YtnjiinbhbjpfkaaGreatDoorTg
import Derived.Test.YtnjiinbhbjpfkaaGreatDoorTl
import Derived.Test.YtnjiinbhbjpfkaaGreatDoorTZ
import Derived.Test.YtnjiinbhbjpfkaaGreatDoorTh
set_option maxRecDepth 100000
set_option maxHeartbeats 0
set_option linter.all false
namespace Go.Proofs.YtnjiinbhbjpfkaaGreatDoor
open Go.RowKit Go.Proofs.Tryz
namespace D
open F
variable {d:Dp}{m m':Dm}{g g':Dg}{w w':aa}
def pA(w0 wr:aa)(ad:Option Addr)(n c:Nat)(L:List B.V):Prop:=wr.ownsRow 0 115 2 (.slice ad n c) n (gT L)/\(∀k,fi ad=some k->w0.heap.size<=k)/\w0.grownBy wr none
theorem qH(l r:List B.V):gT (l++r)=gT l++gT r:=by unfold gT;grind
theorem kF(l:List B.V):(gT l).length=l.length*2:=by
 induction l with
 | nil=>rfl
 | cons a l e=>
  grind[gT,List.length_append]
theorem ou:∀(l:List B.V) (j:Nat) (v:B.V),l[j]? = some v->(gT l)[j*2]? = some (aj v.1)/\(gT l)[j*2+1]? = some (aj v.2)
 | [],j,v,h=>by grind
 | a :: l,0,v,h=>by
  simp at h;subst h
  exact⟨rfl,rfl⟩
 | a :: l,j+1,v,h=>by
  have:=ou l j v eR;grind[gT]
theorem pA.cell{w0 wr:aa}{ad:Option Addr}{n c:Nat}{L:List B.V}(h:pA w0 wr ad n c L)(hn:n=L.length){i:Nat}{v:B.V}(hi:L[i]? = some v):∃b,ad=some (ay b 0)/\b<wr.heap.size/\wr.cell? (ay b (i*2))=some (aj v.1)/\wr.cell? (ay b (i*2+1))=some (aj v.2):=by
 have Y:=(cf.1 hi).1;obtain⟨b,c',e⟩:=ee h.1 ag;injection e with e1 _ _;subst e1;have h1:=h.1;rcases h1.2 with⟨h2,_⟩|⟨g',y,J,k1,_,G,k4,k5,k6,k7⟩
 .cases h2
 cases k1;have H:∀j u,(gT L)[j]? = some u->j<n*2->dS wr b j=some u:=λj u o W=>by
  rw[<-k7,dO,bf W]at o;grind[World.cell?]
 grind[ou,ch]
theorem pA.app{w0 wr J:aa}{ad:Option Addr}{n c b G z:Nat}{L R:List B.V}{W:aa}(h:pA w0 wr ad n c L)(i:wr.grownBy W none)(ho:J.ownsRow 0 115 2 (dA b (n+R.length) G) (n+R.length) (gT L++gT R))(u:W.grownBy J (Value.slice ad n c).ownBlock)(hz:wr.heap.size<=z)(H:lR z (.slice ad n c) (dA b (n+R.length) G)):pA w0 J (some (ay b 0)) (n+R.length) G (L++R):=by
 obtain⟨h1,Z,o⟩:=h;rw[dF]at u;refine⟨by grind[qH],λk y=>?_,?_⟩
 .have Y:k=b:=by
   have:some b=some k:=y;injection this with this;exact this.symm
  subst Y;rcases H with e|⟨b',e1,e2⟩
  .grind[fi,dF]
  have:k=b':=by injection e1
  have:=o.size;omega
 refine⟨u.os.trans (i.os.trans o.os),u.tape.trans (i.tape.trans o.tape),u.output.trans (i.output.trans o.output),by have:=u.size;have:=i.size;have:=o.size;omega,λk y _=>?_⟩;have hs:=o.size;have a0:=i.size;rw[u.block k ag (λe=>by grind),i.block k ag ag];exact o.block k y ag
def pA.nil(w:aa):pA w w none 0 0 []:=⟨eg _ _ _ _,(λk e=>by cases e),aw _ _⟩
def zF(d:Dp)(m:Dm)(I k:Nat)(L:List B.V):Prop:=
 (∀v,v∈L->FN d m v)/\(∀t,1<=t->t<=I->(m.T t).out∈L/\∀i a,i<(m.T t).fr.length->a<d.rg (fU m t i).f->(fU m t i).R a∈L)/\(k≠0->(m.T (I+1)).out∈L/\∀i a,i+1<k->a<d.rg (fU m (I+1) i).f->(fU m (I+1) i).R a∈L)
def Tryz.ES:(prog.info? 4).map (λi=>(i.zero,i.size,i.bytes))=some (some (.bool false),1,1):=by kernel_rfl
def Tryz.underlying231:prog.underlying 231=some (.slice 4):=by kernel_rfl
theorem Ad{w:aa}{g b e:Nat}(h:w.ownsRow e 4 1 (dA g b b) b (madeCells #[.bool false] (b)).toList):Full w g 4 b b (λ_=>.bool false):=by
 rcases h.2 with⟨h,_⟩|⟨g',u,i,G,h2,W,h4,Z,H,J⟩
 .cases h
 cases G;refine⟨i,W,ag,λj Y=>?_⟩;have o:=congrArg (λl=>l[j]?) J;have y:(madeCells #[.bool false] (b)).toList[j]? = some (.bool false):=by
  simp only[madeCells,Array.getElem?_toList,Array.getElem?_map,Array.getElem?_range];rw[mm];simp[Nat.mod_one]
 grind
def qN(R:Nat->B.V)(nr:Nat):List B.V:=(List.range nr).map R
theorem pH(R:Nat->B.V)(nr:Nat):(qN R nr).length=nr:=by grind[qN]
theorem D7{R:Nat->B.V}{nr j:Nat}{u:Value}(h:(gT (qN R nr))[j]? = some u):j<nr*2/\u=eQ R j:=by
 have y:j<nr*2:=by
  have:=(cf.1 h).1;rw[kF,pH]at this;exact this
 refine⟨y,?_⟩;have hi:(qN R nr)[j / 2]? = some (R (j / 2)):=by
  unfold qN;rw[eP,gX ag];rfl
 obtain⟨i,o⟩:=ou _ _ _ hi;unfold eQ;grind
def yE(l:List B.V):∀u∈gT l,u.oneCell'=true:=by
 intro u e;unfold gT at e;obtain⟨v,_,i⟩:=List.mem_flatMap.1 e;simp at i;rcases i with rfl|rfl<;>rfl
def zF.zero(d:Dp)(m:Dm):zF d m 0 0 []:=⟨(λv e=>by cases e),(λt o i=>by omega),λh=>dp rfl h⟩
theorem zF.one{I:Nat}{L:List B.V}(h:zF d m I 0 L)(hI:I<m.nt):zF d m I 1 (L++[(m.T (I+1)).out]):=by
 refine⟨λv e=>?_,λt u o=>?_,λ_=>⟨eB,λi a hi _=>by omega⟩⟩
 .rcases dV.1 e with e|e
  .exact h.1 v e
  rw[fX.1 e];exact af ⟨I+1,⟨ag,ag⟩,rfl⟩
 obtain⟨G,H⟩:=h.2.1 t u o;grind
theorem zF.more{I k:Nat}{L:List B.V}(h:zF d m I (k+1) L)(hI:I<m.nt)(y:k<(m.T (I+1)).fr.length):zF d m I (k+2) (L++qN (fU m (I+1) k).R (d.rg (fU m (I+1) k).f)):=by
 obtain⟨H,G⟩:=h.2.2 ag;refine⟨λv o=>?_,λt W J=>?_,λ_=>⟨eM _ H,λi a hi u=>?_⟩⟩
 .rcases dV.1 o with o|o
  .exact h.1 v o
  unfold qN at o;obtain⟨a,u,rfl⟩:=eK.1 o;exact ah ⟨I+1,k,a,⟨ag,ag⟩,y,fI.1 u,rfl⟩
 .obtain⟨Y,Z⟩:=h.2.1 t W J;grind
 grind[List.mem_append_right,qN,List.mem_append_left]
theorem zF.next{I:Nat}{L:List B.V}(h:zF d m I ((m.T (I+1)).fr.length+1) L):zF d m (I+1) 0 L:=by
 obtain⟨y,o⟩:=h.2.2 ag;refine⟨h.1,λt G H=>?_,λe=>dp rfl e⟩;by_cases e:t=I+1
 .grind
 exact h.2.1 t G ag
structure Scan(d:Dp) (m:Dm) (I:Nat) (S:List Nat) (L:List B.V):Prop where
 nd:S.Nodup
 s:∀c,c∈S->nL d m c
 l:∀v,v∈L->v.1≠0->nL d m v.1
 r:∀v,FN d m v->v∈L
 i:∀j v,j<I->L[j]? = some v->v.1≠0->v.1∈S
 m:∀c,c∈S->∀v,v∈m.M c->v∈L
def zF.scan{L:List B.V}(h:zF d m m.nt 0 L):Scan d m 0 [] L:=by
 refine⟨List.nodup_nil,(λc o=>by cases o),λv e y=>.root (h.1 v e) y,λv e=>?_,(λj v G=>by omega),(λc o=>by cases o)⟩;rcases e with⟨t,ht,rfl⟩|⟨t,i,a,ht,hi,u,rfl⟩
 .exact(h.2.1 t ht.1 ht.2).1
 exact(h.2.1 t ht.1 ht.2).2 i a hi u
theorem Scan.done{S:List Nat}{L:List B.V}(h:Scan d m L.length S L):lZ d m S.length:=by
 refine⟨S,h.nd,λc=>⟨h.s c,λH=>?_⟩,rfl⟩;have u:∀v,v∈L->v.1≠0->v.1∈S:=λv o y=>by
  grind[List.getElem_of_mem,List.getElem?_eq_getElem,D.Scan.i]
 induction H with
 | root o y=>exact u _ (h.r _ o) y
 | slot H o y J=>grind[D.Scan.m]
theorem Scan.skip{I:Nat}{S:List Nat}{L:List B.V}{v:B.V}(h:Scan d m I S L)(G:L[I]? = some v)(H:v.1=0\/v.1∈S):Scan d m (I+1) S L:=by
 refine⟨h.nd,h.s,h.l,h.r,λj u J o y=>?_,h.m⟩;by_cases e:j=I
 .grind
 exact h.i j u ag o y
theorem Scan.take{I:Nat}{S:List Nat}{L:List B.V}{v:B.V}(h:Scan d m I S L)(H:L[I]? = some v)(Y:v.1≠0)(W:v.1∉S):Scan d m (I+1) (v.1 :: S) (L++m.M v.1):=by
 have J:=h.l v (eh H) Y;have hI:=(cf.1 H).1;refine⟨List.nodup_cons.2 ⟨W,h.nd⟩,λc G=>?_,λu o y=>?_,λu o=>eM _ (h.r u o),λj u Z o y=>?_,λc G u o=>?_⟩
 .grind[D.Scan.s]
 .rcases dV.1 o with o|o
  .exact h.l u o y
  exact .slot J o y
 .rw[fk ag]at o;by_cases e:j=I
  .grind
  exact List.mem_cons_of_mem _ (h.i j u ag o y)
 grind[List.mem_append_right,List.mem_append_left,D.Scan.m]
def Scan.len{I:Nat}{S:List Nat}{L:List B.V}(h:Scan d m I S L)(i:∀c,nL d m c->1<=c/\c<=m.nc):S.length<=m.nc:=gK m.nc S h.nd (λc e=>i c (h.s c e))
def qM(S:List Nat):Nat->Value:=λj=>.bool (decide (j∈S))
theorem zQ(S:List Nat)(c j:Nat):eC (qM S) c (.bool true) j=qM (c :: S) j:=by
 unfold eC qM;grind
def qi{P:Program}{ops:Array Oper}{rest:List Oper}{o:Oper}{a:Act}{w:aa}{Q:Exit->Act->aa->Prop}(H:o.guard=none)(s x:Operand)(t:TypeId)(G:o.op=Op.call { callee:=Callee.builtin Builtin.append,args:=#[s,x],argTypes:=#[t,t] })(e:TypeId)(i:TypeInfo)(W:P.underlying t=some (.slice e))(Z:P.info? e=some i)(u ad:Option Addr)(n cap c:Nat)(Y:a.eval s=.slice u n cap)(hx:a.eval x=.slice ad 0 c)(J:n<=cap)(h:wpList P ops Q rest (a.put o.dst (.slice u n cap)) w):wpList P ops Q (o :: rest) a w:=
 wpList_plain H λ_ hK=>by
  unfold Oper.wp;simp[execOp,G,resolve,invoke,builtin,Y,hx,oJ (P:=P) w t o.type e i W Z u ad n cap c J,Result.andThen];exact hK _ _ h
structure Dd(d:Dp) (m:Dm):Prop where
 nt:m.nt≠0
 n1:m.nt<1000000000
 n2:m.nc<1000000000
 f:∀t,mY m t->(m.T t).fr.length<=20/\∀i,i<(m.T t).fr.length->1<=d.rg (fU m t i).f/\d.rg (fU m t i).f<=8
 c:∀c,nL d m c->1<=c/\c<=m.nc/\(m.M c).length<=8
theorem pj(h:dZ d m g w)(hC:Dd d m):Calls prog 79 #[P0 g.mb] w λe w'=>∃N:Nat,e=.returned (aj N)/\lZ d m N/\w.grownBy w' none:=by
 obtain⟨i0,hi,bJ,bD,bU⟩:=info_parts Tryz.ES;obtain⟨j0,Y,aJ,aI,aF⟩:=info_parts Tryz.tM;obtain⟨hn,n1,n2,_,_⟩:=id hC;have c9:w.cell? ⟨g.mb,12,none⟩=some (.slice (g.ro 3 0).1 m.nc (g.ro 3 0).2):=(h.mc 12 ag rfl).1;have lm:=h.M.lt;have q0:IntKind.i64.wrap ((m.nc:Int)+1)=(m.nc:Int)+1:=iU
 have HR:=bj h;have HC:=bj hC;clear h hC;go_in;go_wp2_with (at_make;go_loud (refine wpList_make_full _ rfl _ _ 231 rfl 0 4 i0 _ 1 Tryz.underlying231 hi bJ bD _ _ _ _ (m.nc+1) rfl rfl rfl rfl (kr bU) pY (dk _) ?_))
 intro w1 aA aG;have aU:=bj (Ad aA);have aK:=bj aG;have bM:w.heap.size<w1.heap.size:=aU.lt;clear aA aG c9;go_wp2_with fail
 go_loopw [4,5,6] (λl i k wr=>∃(I n c:Nat) (ad:Option Addr) (L:List B.V),l=.slice ad n c/\i=aj I/\I<=m.nt/\n=L.length/\n<=I*161/\Hid (pA w1 wr ad n c L)/\Hid (zF d m I 0 L)) (λ_ i _ _=>m.nt-(intOf i).toNat)
 case atStart=>exact⟨0,0,0,none,[],rfl,rfl,ag,rfl,ag,pA.nil _,zF.zero d m⟩
 case round=>
  obtain⟨I,n,c,ad,L,rfl,rfl,hI,bX,cS,rL,rU⟩:=hrel;subst bX;have KG:=bj (ar aK rL.2.2);have G:=bj (HR.kept KG);obtain⟨tb,hb,hl,hm,hF⟩:=G.T hn;have c6:wr.cell? ⟨g.mb,6,none⟩=some (.slice (some ⟨tb,0,none⟩) m.nt (g.ro 1 0).2):=by rw[<-hb];exact(G.mc 6 ag rfl).1
  by_cases b3:I<m.nt
  .have aB:(I:Int)<m.nt:=ag
   have t6:wr.cell? ⟨tb,I*8+6,none⟩=some (aj ((m.T (I+1)).out.1:Int)):=(hF.cell (I*8+6) ag).trans (congrArg some (qK m g (t:=I+1) (k:=6) ag ag ag));have t7:wr.cell? ⟨tb,I*8+7,none⟩=some (aj (m.T (I+1)).out.2):=(hF.cell (I*8+7) ag).trans (congrArg some (qK m g (t:=I+1) (k:=7) ag ag ag));have J:=bj rL.1;have aX:=λk hk=>(dP J k hk).2.1;have aO:=bj aX;clear aX hF hb hl hm;go_wp2_with (at_builtin;refine jH rfl (.tmp 26) (.tmp 35) 161 rfl 115 j0 _ 2 16 Tryz.underlying161 Y aJ aI aF rfl ek _ _ _ _ rfl (dQ J (λk h=>av _ _ _ (aO k h))) ⟨wr.heap.size,0,none⟩ 1 1 [aj ((m.T (I+1)).out.1:Int),aj (m.T (I+1)).out.2] rfl rfl ?c1 ?c2 ?c3 ?c4 ?c5 ?_)
   try case c1=>intro j u Y;match j,Y with|0,Y=>(simp at Y;subst Y;simp[Addr.add,go_sem])|1,Y=>(simp at Y;subst Y;simp[Addr.add,go_sem])
   try case c2=>simp[Value.oneCell']
   try case c3=>unfold maxLen;omega
   try case c4=>omega
   try case c5=>omega
   intro v' w6 ho W Z;obtain⟨b,c',rfl⟩:=ee ho ag;have b0:Hid (pA w1 w6 (some ⟨b,0,none⟩) (L.length+1) c' (L++[(m.T (I+1)).out])):=pA.app (R:=[(m.T (I+1)).out]) rL (ak _ _ none) ho W (Nat.le_succ _) Z;have bO:=bj (rU.one b3);clear ho W Z J aO rL rU t6 t7 c6 G KG;have aE:(L++[(m.T (I+1)).out]).length=L.length+1:=jx cw
   rw[<-aE]at b0;rw[<-aE];have hn1:(L++[(m.T (I+1)).out]).length<=I*161+1:=ag
   generalize L++[(m.T (I+1)).out]=L1 at *;have HD:Hid (mY m (I+1)):=⟨ag,ag⟩;obtain⟨cN,b7⟩:=HC.f (I+1) HD;have bZ:=bj b7;clear b7 aE;go_wp2_with fail
   go_loopw [4,6] (λl k wr=>∃(n c H:Nat) (ad:Option Addr) (L:List B.V),l=.slice ad n c/\k=aj H/\H<=(m.T (I+1)).fr.length/\n=L.length/\n<=I*161+1+H*8/\Hid (pA w1 wr ad n c L)/\Hid (zF d m I (H+1) L)) (λ_ k _=>(m.T (I+1)).fr.length-(intOf k).toNat)
   case atStart=>exact⟨L1.length,c',0,_,L1,rfl,rfl,ag,rfl,ag,b0,bO⟩
   case round=>
    obtain⟨cT,bI,H,b9,y,rfl,rfl,cX,aM,cI,o,a8⟩:=hrel;subst aM;have aR:=bj (ar aK o.2.2);have G:=bj (HR.kept aR);obtain⟨aH,bB,_,_,aV⟩:=G.T hn;have d6:wr.cell? ⟨g.mb,6,none⟩=some (.slice (some ⟨aH,0,none⟩) m.nt (g.ro 1 0).2):=by rw[<-bB];exact(G.mc 6 ag rfl).1
    have d0:wr.cell? ⟨aH,I*8,none⟩=some (.slice (g.ro 5 (I+1)).1 (m.T (I+1)).fr.length (g.ro 5 (I+1)).2):=(aV.cell (I*8) ag).trans (congrArg some (qK m g (t:=I+1) (k:=0) ag ag ag));clear aV bB;by_cases aC:H<(m.T (I+1)).fr.length
    .have cU:(H:Int)<((m.T (I+1)).fr.length:Int):=ag
     obtain⟨fb,b2,_,_,aD⟩:=G.F HD ag;have f1:wr.cell? ⟨fb,H*4+1,none⟩=some (.slice (some ⟨g.rb (I+1) H,0,none⟩) (d.rg (fU m (I+1) H).f) (d.rg (fU m (I+1) H).f)):=(aD.cell (H*4+1) ag).trans (congrArg some (uR d m g (I+1) ag));have cY:=aD.lt;have aP:=bj (G.R HD aC);rw[b2]at d0;have J:=bj o.1;obtain⟨r1,r8⟩:=bZ H aC;have bR:=bj (a8.more b3 aC);clear aD b2;generalize g.rb (I+1) H=bP at *;generalize bY:d.rg (fU m (I+1) H).f=nr at *;generalize bG:(fU m (I+1) H).R=RR at *;generalize (m.T (I+1)).fr.length=fl at *;generalize (g.ro 5 (I+1)).2=fc at *;clear bY bG;go_wp2_with (at_builtin;refine jH rfl (.tmp 50) (.tmp 62) 161 rfl 115 j0 _ 2 16 Tryz.underlying161 Y aJ aI aF rfl ek _ _ _ _ rfl J ⟨bP,0,none⟩ nr nr (gT (qN RR nr)) rfl (by rw[kF,pH]) ?c1 ?c2 ?c3 ?c4 ?c5 ?_)
     try case c1=>
      intro j u Y;obtain⟨a1,a2⟩:=D7 Y;rw[a2];have:=aP.cell j a1
      cases j with
      | zero=>simpa[Addr.add] using this
      | succ j=>simpa[Addr.add] using this
     try case c2=>exact yE _
     try case c3=>unfold maxLen;omega
     try case c4=>omega
     try case c5=>omega
     intro v' w6 ho W Z;obtain⟨b6,a7,rfl⟩:=ee ho ag;have a4:=bj (pA.app (R:=qN RR nr) o (aw _ _) (eV pH ho) W (bq _) (eV pH Z));rw[pH]at a4;have a3:(y++qN RR nr).length=y.length+nr:=by rw[cw,pH]
     clear ho W Z J aP o a8 d6 d0 f1 G aR;rw[<-a3]at a4;rw[<-a3];generalize y++qN RR nr=L3 at *;have bH:L3.length<=I*161+1+(H+1)*8:=ag
     clear a3;go_wp2_with fail
     go_roundw
     case rel=>exact⟨L3.length,a7,H+1,_,L3,rfl,iA,ag,rfl,bH,a4,bR⟩
     case measure=>simp[intOf];omega
    obtain rfl:H=(m.T (I+1)).fr.length:=by omega
    have bV:=bj a8.next;have cG:=bj o;have bK:y.length<=(I+1)*161:=ag
    generalize (g.ro 5 (I+1)).1=fa at *;generalize (g.ro 5 (I+1)).2=fc at *;clear o a8;go_wp2_with fail
    go_roundw
    case rel=>exact⟨I+1,y.length,bI,b9,y,rfl,iA,ag,rfl,bK,cG,bV⟩
    case measure=>simp[intOf];omega
  obtain rfl:I=m.nt:=by omega
  have cH:=bj rU.scan;have bQ:Hid (pA w wr ad L.length c L):=⟨rL.1,λk hk=>by have:=rL.2.1 k hk;omega,KG⟩;have aW:Hid (Full wr w.heap.size 4 (m.nc+1) (m.nc+1) (qM [])):=(aU.block (rL.2.2.block w.heap.size bM im)).congr (λj _=>by unfold qM;simp);clear rL rU hF hb hl hm G KG;go_wp2_with fail
  go_loopg [4,7,8,9] (m.nc*9+L.length) (λq l nn i cc wr=>∃(I n N c:Nat) (ad:Option Addr) (S:List Nat) (L:List B.V),l=.slice ad n c/\nn=aj N/\i=aj I/\n=L.length/\N=S.length/\I<=L.length/\L.length<=m.nt*161+N*8/\q=(m.nc-N)*9+(L.length-I)/\Hid (Scan d m I S L)/\Hid (pA w wr ad n c L)/\Hid (Full wr w.heap.size 4 (m.nc+1) (m.nc+1) (qM S)))
  case atStart=>exact⟨0,L.length,0,c,ad,[],L,rfl,rfl,rfl,rfl,rfl,ag,ag,eB,cH,bQ,aW⟩
  case round=>
   obtain⟨I,n,N,c2,b9,S,y,rfl,rfl,rfl,cB,hN,cR,b1,hq,rS,o,rF⟩:=hrel;subst cB;subst hN;have d2:=rS.len (λc hc=>⟨(HC.c c hc).1,(HC.c c hc).2.1⟩);by_cases aB:I<y.length
   .obtain⟨v,hv⟩:∃v,y[I]? = some v:=⟨_,bz aB⟩;obtain⟨b,rfl,lb,v0,v1⟩:=o.cell rfl hv;have cM:(I:Int)<y.length:=ag
    by_cases h0:v.1=0
    .rw[h0]at v0;have KS:=bj (rS.skip hv (af h0));clear rS;go_wp2_with fail
     go_roundg ((m.nc-S.length)*9+(y.length-(I+1)))
     case rel=>exact⟨I+1,y.length,S.length,c2,_,S,y,rfl,rfl,iA,rfl,rfl,ag,b1,rfl,KS,o,rF⟩
     case measure=>omega
    have hr:nL d m v.1:=rS.l v (eh hv) h0;obtain⟨r1,r2,r3⟩:=HC.c v.1 hr
    have p2:(v.1:Int)<m.nc+1:=ag
    have p3:(0:Int)<=v.1:=ag
    obtain⟨s0,z0⟩:=rF.cells v.1 ag;by_cases hs:v.1∈S
    .have s1:wr.cell? ⟨w.heap.size,v.1,none⟩=some (.bool true):=by rw[s0];unfold qM;rw[fp hs]
     have KS:=bj (rS.skip hv (ah hs));clear rS s0 hs;go_wp2_with fail
     go_roundg ((m.nc-S.length)*9+(y.length-(I+1)))
     case rel=>exact⟨I+1,y.length,S.length,c2,_,S,y,rfl,rfl,iA,rfl,rfl,ag,b1,rfl,KS,o,rF⟩
     case measure=>omega
    have s1:wr.cell? ⟨w.heap.size,v.1,none⟩=some (.bool false):=by rw[s0];unfold qM;rw[eW hs]
    have KS:=bj (rS.take hv h0 hs);have aL:=KS.len (λc hc=>⟨(HC.c c hc).1,(HC.c c hc).2.1⟩);rw[List.length_cons]at aL;have G:=bj (HR.kept o.2.2);obtain⟨cb,k1,k2,k3,k4,k5⟩:=G.cc r1 r2;have aZ:=bj (G.S r1 r2);have p4:IntKind.i64.wrap ((v.1:Int)-1)=((v.1-1:Nat):Int):=by rw[fq,dN _ ag];omega
    have p5:v.1-1<m.nc:=ag
    have nb:b≠w.heap.size:=by
     have:=o.1;exact eU this rF ek b rfl
    have d1:w.heap.size<wr.heap.size:=rF.lt;have bL:cb≠w.heap.size:=λe=>by
     have cL:cb<w.heap.size:=by
      obtain⟨cQ,a6,cW,_⟩:=HR.cc r1 r2;rw[k1]at a6;injection a6 with a6;injection a6 with a6 _;omega
     omega
    have c7:g.mb≠w.heap.size:=ag
    have a9:=bj ((rF.eC v.1 (.bool true)).congr (λj _=>zQ S v.1 j));have a5:Hid (pA w (wr.setCell ⟨w.heap.size,v.1,none⟩ (.bool true)) (some ⟨b,0,none⟩) y.length c2 y):=⟨dQ o.1 (λk hk=>ab _ _ _ _ (by
     have:k=b:=by simpa[Value.ownBlock] using hk.symm
     rw[this];exact nb)),o.2.1,bu o.2.2 (ah (bq _)) _⟩
    have bA:Hid (∀j,j<(m.M v.1).length*2->(wr.setCell ⟨w.heap.size,v.1,none⟩ (.bool true)).cell? ⟨g.sb v.1,j,none⟩=some (eQ (mW (m.M v.1)) j)):=λj Y=>(az (a:=⟨g.sb v.1,j,none⟩) (ab _ _ _ _ (by
     have:=(HR.S r1 r2).lt;show g.sb v.1≠w.heap.size;omega))).trans (aZ.cell j Y)
    have bW:(wr.setCell ⟨w.heap.size,v.1,none⟩ (.bool true)).cell? ⟨g.mb,12,none⟩=some (.slice (some ⟨cb,0,none⟩) m.nc (g.ro 3 0).2):=(az (a:=⟨g.mb,12,none⟩) (ab _ _ _ _ c7)).trans k3;have c8:(wr.setCell ⟨w.heap.size,v.1,none⟩ (.bool true)).cell? ⟨cb,(v.1-1)*2,none⟩=some (.slice (some ⟨g.sb v.1,0,none⟩) (m.M v.1).length (m.M v.1).length):=(az (a:=⟨cb,(v.1-1)*2,none⟩) (ab _ _ _ _ bL)).trans k4;clear rS s0 hs G aZ k1 k3 k4 k5 rF o;generalize aN:(m.M v.1).length=sl at *;generalize cD:v.1-1=zv at *;have p6:(zv:Int)<m.nc:=ag
    have p7:(0:Int)<=zv:=ag
    have a0:=bj aN;clear aN cD;by_cases cF:sl=0
    .subst cF;have b5:=db.1 a0;have bN:Hid (Scan d m (I+1) (v.1 :: S) y):=by have:=KS.out;rw[b5,gS]at this;exact this
     have aQ:y.length<=c2:=by
      rcases a5.1.2 with⟨h2,_⟩|⟨g',cO,cZ,k1,_,k3,k4,_⟩
      .cases h2
      cases k1;exact k4
     clear b5 KS;go_wp2_with (at_builtin;refine qi rfl (.tmp 89) (.tmp 98) 161 rfl 115 j0 Tryz.underlying161 Y (some ⟨b,0,none⟩) (some ⟨g.sb v.1,0,none⟩) y.length c2 0 rfl rfl aQ ?_)
     go_roundg ((m.nc-(S.length+1))*9+(y.length-(I+1)))
     case rel=>exact⟨I+1,y.length,S.length+1,c2,_,v.1 :: S,y,rfl,iA,iA,rfl,rfl,ag,ag,rfl,bN,a5,a9⟩
     case measure=>omega
    have J:=bj a5.1;have aY:∀j u,(gT (m.M v.1))[j]? = some u->j<sl*2/\u=eQ (mW (m.M v.1)) j:=λj u hu=>by
     have e1:m.M v.1=qN (mW (m.M v.1)) sl:=by
      unfold qN mW;apply List.ext_getElem?
      intro i;rw[eP];by_cases hi:i<sl
      .rw[gX hi];have aS:i<(m.M v.1).length:=eV a0.out hi
       rw[bz aS];show _=some ((m.M v.1).getD i (0,0));rw[cr,bz aS];rfl
      rw[dK (kr a0.out),dK fH];rfl
     rw[e1]at hu;exact D7 hu
    have b4:=bj aY;have b8:(gT (m.M v.1)).length=sl*2:=by rw[kF,a0.out]
    have aT:=bj b8;clear aY b8;go_wp2_with (at_builtin;refine jH rfl (.tmp 89) (.tmp 98) 161 rfl 115 j0 _ 2 16 Tryz.underlying161 Y aJ aI aF rfl ek _ _ _ _ rfl J ⟨g.sb v.1,0,none⟩ sl sl (gT (m.M v.1)) rfl aT ?c1 ?c2 ?c3 ?c4 ?c5 ?_)
    try case c1=>
     intro j u Y;obtain⟨a1,a2⟩:=b4 j u Y;rw[a2];have:=bA j a1
     cases j with
     | zero=>simpa[Addr.add] using this
     | succ j=>simpa[Addr.add] using this
    try case c2=>exact yE _
    try case c3=>unfold maxLen;omega
    try case c4=>omega
    try case c5=>omega
    intro v' w6 ho W Z;obtain⟨b6,a7,rfl⟩:=ee ho ag;have a4:=bj (pA.app (R:=m.M v.1) a5 (aw _ _) (eV a0.out ho) W (z:=wr.heap.size) (by simp[World.setCell]) (eV a0.out Z));rw[a0.out]at a4;have bE:Hid (Full w6 w.heap.size 4 (m.nc+1) (m.nc+1) (qM (v.1 :: S))):=a9.block (W.block w.heap.size a9.lt (λe=>nb (by injection e with e;exact e.symm)));have a3:(y++m.M v.1).length=y.length+sl:=by rw[cw,a0.out]
    clear ho W Z J a5 a9 bA bW c8 b4 aT;rw[<-a3]at a4;rw[<-a3];have bF:=bj KS;have bC:I+1<=(y++m.M v.1).length:=ag
    have cA:(y++m.M v.1).length<=m.nt*161+(S.length+1)*8:=ag
    have cV:(m.nc-(S.length+1))*9+((y++m.M v.1).length-(I+1))<(m.nc-S.length)*9+(y.length-I):=ag
    clear a3 KS;generalize y++m.M v.1=L7 at *;go_wp2_with fail
    go_roundg ((m.nc-(S.length+1))*9+(L7.length-(I+1)))
    case rel=>exact⟨I+1,L7.length,S.length+1,a7,_,v.1 :: S,L7,rfl,iA,iA,rfl,rfl,bC,cA,rfl,bF,a4,bE⟩
    case measure=>omega
   obtain rfl:I=y.length:=by omega
   have KD:=bj rS.done;have bT:=bj o.2.2;clear rS;go_wp2_with fail
   go_ret;exact⟨S.length,rfl,KD,bT⟩
def Dc.full(c:Dc):Dc:={ c with fu:=true }
theorem H7{rb:Nat}{x16 x19 x20:Int}(Y:IntKind.i64.wrap (x16+1)=x16+1)(W:IntKind.i64.wrap (x19+1)=x19+1)(J:IntKind.i64.wrap (x20+1)=x20+1)(i:w.cell? (ay rb 16)=some (aj x16)/\w.frozen? (ay rb 16)=false)(o:w.cell? (ay rb 19)=some (aj x19)/\w.frozen? (ay rb 19)=false)(u:w.cell? (ay rb 20)=some (aj x20)/\w.frozen? (ay rb 20)=false): eL 226 #[Pt rb 16] w λw'=>w'=((w.setCell (ay rb 16) (aj (x16+1))).setCell (ay rb 19) (aj (x19+1))).setCell (ay rb 20) (aj (x20+1)):=by
 obtain⟨i,y⟩:=i;obtain⟨o,G⟩:=o;obtain⟨u,H⟩:=u;delta eL;go_in;go_wp2
 go_end0;grind
theorem IJ(h:dZ d m g w)(H:m.G.all<1000000000)(Y:m.G.sure<1000000000)(h3:m.G.nF<1000000000):eL 226 #[Pt g.mb 16] w λw'=>Tr d m g w (m.iY m.G.born) g w':=by
 have wr:∀x:Nat,x<1000000000->IntKind.i64.wrap ((x:Int)+1)=(x:Int)+1:=λx hx=>by rw[fq,dN _ ag]
 refine du (H7 (x16:=(m.G.all:Int)) (x19:=(m.G.sure:Int)) (x20:=(m.G.nF:Int)) (wr _ H) (wr _ Y) (wr _ h3) (h.mc 16 ag rfl) (h.mc 19 ag rfl) (h.mc 20 ag rfl)) ?_;rintro w' rfl;have y:∀(m1:Dm) (w1:aa) (j:Nat) (v:Value) (G:Dc),dZ d m1 g w1->(∀i,i<24->mE d (m1.iY G) g i=if i=j then v else mE d m1 g i)->Tr d m1 g w1 (m1.iY G) g (w1.setCell (ay g.mb j) v):=λm1 w1 j v G Z o=>Z.yh j v ⟨rfl,rfl,rfl,rfl,rfl,rfl,rfl,rfl⟩ o;have ev:∀(m1:Dm) (G:Dc) (j:Nat) (v:Value),16<=j->j<24->(∀i,16<=i->i<24->mE d (m1.iY G) g i=if i=j then v else mE d m1 g i)->∀i,i<24->mE d (m1.iY G) g i=if i=j then v else mE d m1 g i:=λm1 G j v H Y o i hi=>by
  by_cases e:16<=i
  .grind
  rw[eD];have hc:=oU 15 i ag
  rcases hc with rfl|rfl|rfl|rfl|rfl|rfl|rfl|rfl|rfl|rfl|rfl|rfl|rfl|rfl|rfl|rfl<;>rfl
 have u:∀i:Nat,16<=i->i<24->i=16\/i=17\/i=18\/i=19\/i=20\/i=21\/i=22\/i=23:=λi a b=>by omega
 have W:=y m w 16 (jk ((m.G.all:Int)+1)) { m.G with all:=m.G.all+1 } h (ev _ _ _ _ ag ag (λi a b=>by rcases u i a b with rfl|rfl|rfl|rfl|rfl|rfl|rfl|rfl<;>rfl));have J:=y _ _ 19 (jk ((m.G.sure:Int)+1)) { m.G with all:=m.G.all+1,sure:=m.G.sure+1 } W.r (ev _ _ _ _ ag ag (λi a b=>by rcases u i a b with rfl|rfl|rfl|rfl|rfl|rfl|rfl|rfl<;>rfl));exact⟨rfl,(W.trans J).trans (y _ _ 20 (jk ((m.G.nF:Int)+1)) m.G.born J.r (ev _ _ _ _ ag ag (λi a b=>by rcases u i a b with rfl|rfl|rfl|rfl|rfl|rfl|rfl|rfl<;>rfl)))⟩
def gl(d:Dp)(m:Dm):Dc:=if d.n<=m.G.all then m.G.full else m.G
def dZ.full(h:dZ d m g w):Tr d m g w (m.iY m.G.full) g (w.setCell (ay g.mb 23) (.bool true)):=h.yh 23 _ ⟨rfl,rfl,rfl,rfl,rfl,rfl,rfl,rfl⟩ (λi hi=>by
 have e:=oU 23 i ag;rcases e with rfl|rfl|rfl|rfl|rfl|rfl|rfl|rfl|rfl|rfl|rfl|rfl|rfl|rfl|rfl|rfl|rfl|rfl|rfl|rfl|rfl|rfl|rfl|rfl<;>rfl)
theorem nL.iY(G:Dc){c:Nat}:nL d (m.iY G) c↔nL d m c:=by
 constructor
 .intro h;induction h with
  | root e i=>exact .root e i
  | slot _ e i o=>exact .slot o e i
 intro h;induction h with
 | root e i=>exact .root e i
 | slot _ e i o=>exact .slot o e i
theorem Dd.iY(h:Dd d m)(G:Dc):Dd d (m.iY G):=⟨h.nt,h.n1,h.n2,h.f,λc e=>h.c c ((nL.iY G).1 e)⟩
theorem Is(h:dZ d m g w)(hC:Dd d m):Calls prog 225 #[P0 g.mb] w λe w'=>∃(ok:Bool),e=.returned (.bool ok)/\Tr d m g w (m.iY (gl d m)) g w'/\(((gl d m).fu=false/\ok=decide (0<d.n))\/∃N:Nat,lZ d m N/\ok=decide (N<d.n)):=by
 have a1:dS w g.mb 16=some (aj m.G.all):=(h.mc 16 ag rfl).1;have c1:dS w g.mb 1=some (aj d.n):=(h.mc 1 ag rfl).1;obtain⟨J,a0⟩:=h.mc 23 ag (v:=.bool m.G.fu) rfl;have lm:=h.M.lt;have W:=bj h;have HC:=bj hC;by_cases h1:d.n<=m.G.all
 .have Z:(d.n:Int)<=m.G.all:=ag
  have hG:gl d m=m.G.full:=by unfold gl;rw[bf h1]
  rw[hG];have Y:=bj (λn=>Tr.ahead (df (aw w none) n) (W.kept (df (aw w none) n)).full);have y:=bj (λn=>pj (Y n).r (HC.iY m.G.full));go_in;go_wp2
  go_quiet (fail)
  go_wp2_with fail
  refine(y nq).mono ?_;rintro e w5 ⟨N,rfl,H,u⟩;have o:=bj ((Y nq).kept u);have d1:dS w5 g.mb 1=some (aj d.n):=(o.r.mc 1 ag rfl).1;have HN:Hid (lZ d m N):=by
   obtain⟨l,l1,l2,l3⟩:=H;exact⟨l,l1,λc=>by grind[nL.iY],l3⟩
  go_wp2
  go_ret;exact⟨_,rfl,o,ah ⟨N,HN,eB⟩⟩
 have Z:¬((d.n:Int)<=m.G.all):=ag
 have hG:gl d m=m.G:=by unfold gl;rw[au h1]
 rw[hG];have i:m.iY m.G=m:=rfl;rw[i]
 cases hf:m.G.fu with
 | true=>
  rw[hf]at J;have y:=bj (λn=>pj (W.kept (df (aw w none) n)) HC);go_in;go_wp2
  go_quiet (fail)
  go_wp2_with fail
  refine(y nq).mono ?_;rintro e w5 ⟨N,rfl,H,u⟩;have o:=bj ((Tr.refl W).kept (ar (df (aw w none) nq) u));have d1:dS w5 g.mb 1=some (aj d.n):=(o.r.mc 1 ag rfl).1;have HN:=bj H;go_wp2
  go_ret;exact⟨_,rfl,o,ah ⟨N,HN,eB⟩⟩
 | false=>
  rw[hf]at J;go_in;go_wp2
  go_quiet (fail)
  go_wp2
  go_ret;exact⟨_,rfl,(Tr.refl W).kept (df (aw w none) nq),af ⟨by first|exact HF|trivial,eB⟩⟩
end D
namespace F
variable {g:eJ}{k op t:Nat}{l:List B.V}{p:dL}{s:Pl}{w:aa}
def dZ.NF(h:dZ p s g w):¬rA p.sb p.pb p.n s.kd (kE s g) p.eb:=λe=>by
 have:=(h.i 0 0 0 1 0 0 p.eb rfl e).1;omega
def Jl(h:dZ p s g w)(hP:PW p)(o:Ok p s):C8 w (th p s g) p.eb p.sb p.pb p.n (eG p s).length s.kd (kE s g) (B.oi (eG p s) s.M):=by
 refine⟨M0 h.q o.lt (by have:=o.ll;have:=o.lw.d;omega) (by have:=o.kl;have:=hP.n2;omega) (λu G=>by have:=(o.fw u G trivial).n2;omega) (λu G i hi=>(hP.rg _ ((o.fw u G trivial).f i hi).1).2),λk H=>⟨h.q.lt H,λe=>?_⟩,h.S,o.hl,hP.n1,hP.n2⟩;obtain⟨x,y,z,J,W⟩:=H;exact J (h.i x y z 1 0 0 k W (af e)).1
theorem Jd(eb tb:Nat)(E Tk:Nat->Value)(R:aa->Prop)(w:aa)(o:Full w eb 144 44 44 E)(u:Full w tb 160 7 7 Tk)(H:eL 173 #[P0 eb,aj ((5:Nat):Int),P0 tb,aj 0] ((w.setCell (ay tb 2) (.bool false)).setCell (ay eb 42) (.bool true)) λw'=>R w'): eL 156 #[P0 eb,P0 tb] w λw'=>R w':=by
 obtain⟨y,a0⟩:=o.cells 42 ag;obtain⟨c2,z2⟩:=u.cells 2 ag;have Z:=bj H;generalize i:E 42=Y at y;generalize G:Tk 2=y2 at c2;delta eL;go_in;go_wp2_with fail
 refine du Z λw2 J=>?_;have HR:=bj J;go_wp2
 go_end0;grind
def Pl.Iq(s:Pl):Pl:={ s with sp:=true }
theorem Jc(h:dZ p s g w)(ht:fm s t)(y:s.ev.length<=100000): eL 156 #[P0 p.eb,P0 (g.tb t)] w λw'=>∃r,Tr p s g w (s.mf t) (g.at 9 0 r) w':=by
 have u:Tr p s g w (s.dx t (s.T t).stop) g (w.setCell (ay (g.tb t) 2) (.bool false)):=by
  refine h.flag ht rfl rfl ?_ (bp (S:=λk=>k=g.tb t) (dw _ _) (af rfl) _);refine((h.tk ht).eC 2 _).congr (λj H=>?_);have i:∀a,sl (s.dx t (s.T t).stop) g a t=sl s g a t:=λa=>by
   unfold sl;rw[jX (s:=s) (s':=s.dx t (s.T t).stop) rfl rfl rfl rfl rfl (jx di) rfl]
  have J:=oU 6 j ag;rcases J with rfl|rfl|rfl|rfl|rfl|rfl|rfl
  .rfl
  .rw[eN _ _ _ _ ek];exact(i 12).symm
  .rw[gO];show _=Value.bool _;rw[di];rfl
  .rw[eN _ _ _ _ ek];show _=wF p g _;rw[di];rfl
  .rw[eN _ _ _ _ ek];show _=yL g t _;rw[di];rfl
  .rw[eN _ _ _ _ ek];show _=Value.int .i64 _;rw[di];rfl
  rw[eN _ _ _ _ ek];exact(i 5).symm
 have G:Tr p s g w (s.dx t (s.T t).stop).Iq g ((w.setCell (ay (g.tb t) 2) (.bool false)).setCell (ay p.eb 42) (.bool true)):=by
  refine u.trans (u.r.zm (s':=(s.dx t (s.T t).stop).Iq) rfl rfl rfl rfl rfl (λa b=>⟨rfl,rfl⟩) ?_ (bp (S:=λk=>k=p.eb) (dw _ _) (af rfl) _));refine(u.r.E.eC 42 _).congr (λj H=>?_);by_cases e:j=42
  .subst e;rw[gO];rfl
  rw[eN _ _ _ _ e];unfold iH;by_cases o:j<28
  .grind
  rw[au o,au o,au e,au e];rfl
 refine Jd p.eb (g.tb t) (iH p s g) (gz p s g t) (λw'=>∃r,Tr p s g w (s.mf t) (g.at 9 0 r) w') w h.E (h.tk ht) ?_;refine du (DC (t:=t) 5 0 G.r ht y) ?_;rintro w' ⟨r,W⟩;exact⟨rfl,r,G.trans W⟩
def zA(p:dL)(s:Pl)(g:eJ)(w:aa)(ty:Nat)(l:List B.V)(x:Int)(o:Bool)(w2:aa):Prop:=
 (o=true/\∃(c:Nat) (kd1:B.Kd) (g':eJ),x=(c:Int)/\1<=c/\c<=p.n/\kd1.on c=false/\B.lS kd1 p.n (eG p s) s.M/\IP (eG p s).length p.n (B.oi (eG p s) s.M) s.kd kd1/\Tr p s g w (s.oS kd1 c ty l) g' w2/\g'.tb=g.tb/\g'.fb=g.fb) \/
 (o=false/\(∀c,1<=c->c<=p.n->B.nK (eG p s) s.M c)/\∃(kd1:B.Kd) (g':eJ),B.lS kd1 p.n (eG p s) s.M/\Tr p s g w (s.vk kd1) g' w2/\g'.tb=g.tb)
def Ix{w':aa}{ty:Nat}{v:Value}(h:dZ p s g w)(i:dM (rA p.sb p.pb p.n s.kd (kE s g)) w w')(W:Laid w w' p.sb p.pb p.eb p.n (eG p s).length ty l s.kd (kE s g) (B.oi (eG p s) s.M) v): ∃(x:Int) (o:Bool),v=.tuple #[.agg #[aj x,aj 0],.bool o]/\zA p s g w ty l x o w':=by
 rcases W with⟨k,Z,e,h1,H,G,u,rfl,y,J⟩|⟨rfl,H,e,G,Y,y⟩
 .refine⟨_,_,rfl,af ⟨rfl,k+1,e,_,ag,ag,ag,H,G,u,h.MR (s':=s.oS e (k+1) ty l) (vb:=(kE s g).put (k+1) Z ty) rfl rfl rfl rfl rfl rfl rfl rfl rfl rfl rfl y i J,rfl,rfl⟩⟩
 exact⟨_,_,rfl,ah ⟨rfl,H,e,_,Y,h.MR (s':=s.vk e) (vb:=kE s g) rfl rfl rfl rfl rfl rfl rfl rfl rfl rfl rfl G i y,rfl⟩⟩
def Bd{a ty:Nat}(op b c:Nat)(hR:Rn p s t)(ha:a<p.rg (bw s t).f)(Y:s.ev.length<=100000): (∀x w2 u,zA p s g w ty l x true w2->w2.grownBy u none->eL 149 #[mD p s g t (op,a,b,c),.agg #[aj x,aj 0]] u λw'=>∃s' g',mM p s t a ty l s'/\Tr p s g w s' g' w') /\ (∀x w2 u,zA p s g w ty l x false w2->w2.grownBy u none->eL 156 #[P0 p.eb,P0 (g.tb t)] u λw'=>∃s' g',mM p s t a ty l s'/\Tr p s g w s' g' w'):=by
 constructor
 .intro x w2 u hS Z;rcases hS with⟨_,q,o,g',rfl,H,W,h3,J,h5,h6,h7,h8⟩|⟨h0,_⟩
  .have G:=h6.kept Z;have:=se (s:=s.oS o q ty l) (g:=g') (t:=t) (i:=de s t) (a:=a) op b c (g.tb t) p.eb (q,0) G.r hR.ht hR.hi ha;rw[h8]at this;refine du this λw' y=>?_;exact⟨rfl,_,g',af ⟨q,o,H,W,h3,J,h5,rfl⟩,G.trans y⟩
  cases h0
 intro x w2 u hS Z;rcases hS with⟨h0,_⟩|⟨_,H,o,g',W,h3,J⟩
 .cases h0
 have G:=h3.kept Z;have:=Jc (s:=s.vk o) (g:=g') (t:=t) G.r hR.ht Y;rw[J]at this;refine du this ?_;rintro w' ⟨r,y⟩;exact⟨rfl,_,_,ah ⟨H,o,W,rfl⟩,G.trans y⟩
def i9{a b c:Nat}(h:dZ p s g w)(hP:PW p)(hR:Rn p s t)(ha:a<p.rg (bw s t).f)(hb:b<=8)(a0:s.ev.length<=100000): dD 163 #[mD p s g t (op,a,b,c),P0 (p.ac+15)] w (aj 0) λw'=>∃s' g',mM p s t a 0 (List.replicate b (0,0)) s'/\Tr p s g w s' g' w':=by
 have H:=hP.box h.fix (j:=15) ag rfl;refine wu op a b c _ _ _ (p.ac+14) (p.ac+15) (λw'=>∃s' g',mM p s t a 0 (List.replicate b (0,0)) s'/\Tr p s g w s' g' w') w H.1 (λw1 J=>?_);have y:=h.kept J;obtain⟨E1,E2⟩:=Bd (w:=w1) (g:=g) (ty:=0) (l:=List.replicate b (0,0)) op b c hR ha a0;have a1:=Cv op a b c (g.fb t (de s t)) (g.tb t) p.eb (p.ac+14) (zA p s g w1 0 (List.replicate b (0,0))) (λw'=>∃s' g',mM p s t a 0 (List.replicate b (0,0)) s'/\Tr p s g w1 s' g' w') w1 (hP.box y.fix (j:=14) ag rfl).1 (λw2 G a2=>?_) E1 E2
 .refine du a1 ?_;rintro w' ⟨s',g',k1,k2⟩;exact⟨rfl,s',g',k1,k2.ahead J⟩
 have i:=y.kept G;refine(yH (th p s g) op a b c _ _ p.eb p.sb p.pb p.n (eG p s).length s.kd (kE s g) (B.oi (eG p s) s.M) w2 (Jl i hP hR.ok) hb (i.Hn hP) i.NF).mono ?_;rintro e w3 ⟨v,rfl,W,hL⟩;obtain⟨x,o,rfl,hS⟩:=Ix i W hL;refine⟨x,o,rfl,?_,W.block a2 (λhm=>?_)⟩
 .rcases hS with⟨e0,q,u,g',e1,H,Z,h3,Y,h5,h6,h7⟩|⟨e0,H,u,g',Z,h3,Y⟩
  .exact af ⟨e0,q,u,g',e1,H,Z,h3,Y,h5,h6.ahead G,h7⟩
  exact ah ⟨e0,H,u,g',Z,h3.ahead G,Y⟩
 have:=y.lt ⟨1,0,0,hm⟩;omega
def i12{a b c:Nat}(h:dZ p s g w)(hP:PW p)(hR:Rn p s t)(ha:a<p.rg (bw s t).f)(hb:b<256)(hc:c<p.rg (bw s t).f)(a0:s.ev.length<=100000): dD 163 #[mD p s g t (op,a,b,c),P0 (p.ac+17)] w (aj 0) λw'=>∃s' g',mM p s t a (b+1) [(bw s t).R c] s'/\Tr p s g w s' g' w':=by
 have H:=hP.box h.fix (j:=17) ag rfl;refine wu op a b c _ _ _ (p.ac+16) (p.ac+17) (λw'=>∃s' g',mM p s t a (b+1) [(bw s t).R c] s'/\Tr p s g w s' g' w') w H.1 (λw1 J=>?_);have y:=h.kept J;obtain⟨E1,E2⟩:=Bd (w:=w1) (g:=g) (ty:=b+1) (l:=[(bw s t).R c]) op b c hR ha a0;have a1:=Cu op a b c (g.fb t (de s t)) (g.tb t) p.eb (p.ac+16) (zA p s g w1 (b+1) [(bw s t).R c]) (λw'=>∃s' g',mM p s t a (b+1) [(bw s t).R c] s'/\Tr p s g w1 s' g' w') w1 (hP.box y.fix (j:=16) ag rfl).1 (λw2 G a2=>?_) E1 E2
 .refine du a1 ?_;rintro w' ⟨s',g',k1,k2⟩;exact⟨rfl,s',g',k1,k2.ahead J⟩
 have i:=y.kept G;refine(tj (th p s g) op a b c _ _ p.eb p.sb p.pb p.n (eG p s).length ((bw s t).R c) s.kd (kE s g) (B.oi (eG p s) s.M) w2 (Jl i hP hR.ok) hb (In.c i hR.iC op a b c _ _ hc) (i.Hn hP) i.NF).mono ?_;rintro e w3 ⟨v,rfl,W,hL⟩;obtain⟨x,o,rfl,hS⟩:=Ix i W hL;refine⟨x,o,rfl,?_,W.block a2 (λhm=>?_)⟩
 .rcases hS with⟨e0,q,u,g',e1,H,Z,h3,Y,h5,h6,h7⟩|⟨e0,H,u,g',Z,h3,Y⟩
  .exact af ⟨e0,q,u,g',e1,H,Z,h3,Y,h5,h6.ahead G,h7⟩
  exact ah ⟨e0,H,u,g',Z,h3.ahead G,Y⟩
 have:=y.lt ⟨1,0,0,hm⟩;omega
def i10{a b c:Nat}(h:dZ p s g w)(hP:PW p)(hR:Rn p s t)(u:a<p.rg (bw s t).f)(y:b<p.rg (bw s t).f)(o:c<p.rg (bw s t).f): Calls prog 101 #[mD p s g t (op,a,b,c)] w λe w'=>∃(why:Int) (s':Pl),e=.returned (aj why)/\kM p s t (10,a,b,c) why s'/\∃g',Tr p s g w s' g' w':=by
 refine(C7 op a b c _ _ p.eb _ _ _ _ _ p.sb p.pb p.n _ s.kd (kE s g) _ s.M w (In.fr h hR.iC) h.S (λi hi=>hR.ok.AF (hR.nM hi)) hP.n2 u y o (h.Hn hP) h.E.lt (h.E.ne (h.rg hR.ht hR.hi) ek)).mono ?_;rintro e w' (⟨k0,rfl,k1,k2⟩|⟨k0,rfl,k1⟩)
 .exact⟨0,_,rfl,af ⟨k0,rfl,rfl⟩,g,In.set h hR.iC k1 k2⟩
 exact⟨_,s,rfl,ah ⟨k0,rfl,rfl⟩,g,(Tr.refl h).kept k1⟩
def i11{a b c:Nat}(h:dZ p s g w)(hP:PW p)(hR:Rn p s t)(H:a<p.rg (bw s t).f)(J:b<p.rg (bw s t).f)(y:c<p.rg (bw s t).f): Calls prog 102 #[mD p s g t (op,a,b,c)] w λe w'=>∃(why:Int) (s':Pl),e=.returned (aj why)/\kM p s t (11,a,b,c) why s'/\∃g',Tr p s g w s' g' w':=by
 refine(C6 op a b c _ _ p.eb _ _ _ _ _ p.sb p.pb p.n (eG p s).length _ s.kd (kE s g) (B.oi (eG p s) s.M) _ w (In.fr h hR.iC) h.S hR.ok.hl (λi hi=>hR.ok.AF (hR.nM hi)) (λi hi Y=>B.pR.vO (hR.nM hi) Y) hP.n2 H J y (h.Hn hP) h.E.lt (λo=>h.NF (ah (ah o)))).mono ?_;rintro e w' (⟨k0,rfl,u,k1,k2,G,W⟩|⟨k0,rfl,k1⟩)
 .exact⟨0,s.ur ((bw s t).R a).1 ((bw s t).R b).2.toNat ((bw s t).R c),rfl,af ⟨k0,rfl,rfl⟩,_,h.MR (s':=s.ur ((bw s t).R a).1 ((bw s t).R b).2.toNat ((bw s t).R c)) (vb:=u) rfl rfl rfl rfl rfl rfl rfl rfl rfl rfl (jx W) k1 (k2.mono (λk o _=>ah (ah o))) G⟩
 exact⟨_,s,rfl,ah ⟨k0,rfl,rfl⟩,g,(Tr.refl h).kept k1⟩
def KH(h:dZ p s g w)(hP:PW p)(G:Ok p s)(o:p.wk<=50): eL 69 #[P0 p.sb,aj p.wk] w λw'=>∃g',Tr p s g w (s.jr p) g' w':=by
 refine du (Dk (th p s g) p.eb p.sb p.pb p.n (eG p s).length p.wk s.kd (kE s g) (B.oi (eG p s) s.M) w (Jl h hP G) o) ?_;rintro w' ⟨i,k1,k2,y,H,u⟩;exact⟨rfl,_,h.MR (s':=s.jr p) (vb:=i) rfl rfl rfl rfl rfl rfl rfl rfl rfl rfl (jx u) k1 y H⟩
def Lc(h:dZ p s g w)(hR:Rn p s t): dD 164 #[P0 (g.tb t)] w (P0 (g.fb t (de s t))) λw'=>w.grownBy w' none:=by
 have J:=AI hR.iC;have u:=h.row (x:=12) (y:=t) (by unfold fe;omega) (iE ag hR.ht);have i:eS s 12 t=de s t+1:=J;obtain⟨o,cap,he⟩:=ee u (kr i);rw[he,i]at u;have G:w.ownsRow 0 184 1 (dA o (de s t+1) cap) (de s t+1) (((List.range (s.T t).fr.length).map (g.fb t)).map P0):=u;have c1:w.cell? (ay (g.tb t) 1)=some (dA o (de s t+1) cap):=by
  rw[(h.tk hR.ht).cell 1 ag];show some (sl s g 12 t)=_;rw[he,i]
 have H:w.cell? (ay o (de s t))=some (P0 (g.fb t (de s t))):=(gZ G).2.2.2.2.2 (de s t) _ (by
  rw[eP,eP,gX hR.hi];rfl)
 exact Ld (g.tb t) o cap (de s t) (g.fb t (de s t)) w c1 H (gp hR.fw.n2)
def Kf(h:dZ p s g w)(hR:Rn p s t): dD 185 #[P0 (g.fb t (de s t))] w (.bool (decide ((bw s t).nx=p.len (bw s t).f))) λw'=>w.grownBy w' none:=
 C2 _ _ _ _ _ _ _ w (In.fr h hR.iC).1
def Le(h:dZ p s g w)(hP:PW p)(hR:Rn p s t)(hn:(bw s t).nx≠p.len (bw s t).f){a b c:Nat}(hi:p.ins (bw s t).f (bw s t).nx=(op,a,b,c)): dD 186 #[P0 (g.fb t (de s t))] w (yS op a b c) λw'=>Tr p s g w (s.gF t) g w':=by
 have o:=In.fr h hR.iC;have i:=hR.ff;obtain⟨G,H⟩:=hP.cd w h.fix (bw s t).f i.1;obtain⟨k0,k1,k2,u⟩:=H (bw s t).nx ag;rw[hi]at k0 k1 k2 u;refine du (DG _ _ _ _ _ _ op a b c _ w o.1 ag (hP.le _ i.1) G k0 k1 k2 u) ?_;rintro w' ⟨y,J⟩;exact⟨rfl,In.next h hR.iC y ⟨J,o.2.1.block (y.block _ o.2.1.lt (by intro e;injection e with e;exact o.2.2 e.symm)),o.2.2⟩⟩
def CL(v:B.V)(h:dZ p s g w)(hP:PW p)(hR:Rn p s t)(i:s.ev.length<=100000): eL 107 #[P0 (g.tb t),vA v] w λw'=>∃g',Tr p s g w (s.back t v) g' w':=by
 have hn:=hR.fw.n2;have o:=hR.ok.kl;have u:=hP.n2;refine vZ v h hR.ok.lw hR.ok.ww hR.ht hR.lf hR.wh hR.fw.n1 ag hR.lv hR.ok.nd hR.ok.lt hR.ok.ol ag i (λe=>?_);have:=hR.fw.b (de s t-1) (gp hR.hi);rw[show de s t-1+1=de s t by omega]at this;exact this
def Mg{why:Nat}(hw:why<=8)(h:dZ p s g w)(hP:PW p)(hR:Rn p s t)(i:s.ev.length<=100000): eL 187 #[P0 p.eb,P0 (g.tb t),aj why] w λw'=>∃g',Tr p s g w (s.leave t (0,-(why:Int)) 3 why) g' w':=by
 have o:=hR.ok.kl;have u:=hP.n2;exact Mf hw h hR.ok.lw hR.ok.ww hR.ht hR.lv hR.ok.nd hR.ok.lt hR.ok.ol ag i
def Ki(p:dL)(s:Pl)(g:eJ)(w:aa)(t n:Nat)(wr:aa):Prop:=
 ∃s1 g1 k,Tr p s g w s1 g1 wr/\Rn p s1 t/\s1.ev=s.ev/\(s1.T t).fr.length<=k/\s1.ends p t k=s.ends p t 21/\(s1.T t).fr.length=n
def CU(i:0<k)(h:(bw s t).nx≠p.len (bw s t).f):s.ends p t k=s:=by
 cases k with
 | zero=>omega
 | succ k=>unfold Pl.ends;rw[au (λe=>h e.2)]
def wm(e:(s.T t).run=true)(h:(bw s t).nx=p.len (bw s t).f):s.ends p t (k+1)=(s.back t (0,0)).ends p t k:=by
 show(if(s.T t).run=true/\(bw s t).nx=p.len (bw s t).f then Pl.ends p t k (s.back t (0,0)) else s)=_;rw[bf ⟨e,h⟩]
def CT(k:Nat)(i:(s.T t).run=false):s.ends p t k=s:=by
 cases k with
 | zero=>rfl
 | succ k=>unfold Pl.ends;rw[au (λe=>by rw[i]at e;cases e.1)]
theorem dZ.run{p:dL}{s:Pl}{g:eJ}{w:aa}{t:Nat}(h:dZ p s g w)(ht:fm s t){b:Bool}(e:(s.T t).run=b):w.cell? (ay (g.tb t) 2)=some (.bool b):=by
 rw[(h.tk ht).cell 2 ag];show some (Value.bool (s.T t).run)=_;rw[e]
def BP(s:Pl)(t:Nat):de (s.gF t) t=de s t:=by
 unfold de;rw[show((s.gF t).T t).fr.length=(s.T t).fr.length from(gI s t (de s t) t { bw s t with nx:=(bw s t).nx+1 }).2.2.2.2]
end F
namespace F
def jE(v:B.V):Prop:=-9223372036854775808<=v.2/\v.2<=9223372036854775807
structure Ng(s:Pl):Prop where
 F:∀t f,f∈(s.T t).fr->∀a,jE (f.R a)
 M:∀c v,v∈s.M c->jE v
 O:∀v,v∈s.out->jE v
variable {p:dL}{s s':Pl}{t:Nat}
theorem jE.n{x:Int}(i:-9223372036854775808<=x)(e:x<=9223372036854775807):jE (0,x):=⟨i,e⟩
theorem jE.z:jE (0,0):=⟨ek,ek⟩
theorem jE.getD{l:List B.V}(h:∀v,v∈l->jE v)(i:Nat):jE (l.getD i (0,0)):=by
 grind[List.getElem?_eq_getElem,List.getElem_mem,List.getElem?_eq_none,jE.z]
theorem jE.wrap(x:Int):jE (0,B.wrap x):=by
 grind[B.wrap,jE.n]
theorem jE.arith(o:Nat)(x y:Int):jE (0,arith o x y):=by
 grind[F.arith,jE.wrap,sP,jE.n,jE.z]
theorem jE.wide{b c:Nat}(e:b<256)(i:c<256):jE (0,B.wide b c):=by
 grind[B.wide,jE.n]
theorem Ng.at(h:Ng s)(t i a:Nat):jE ((dq s t i).R a):=by
 unfold dq;rw[cr];by_cases e:i<(s.T t).fr.length
 .rw[bz e];exact h.F t _ (List.getElem_mem e) a
 rw[dK ag];exact jE.z
theorem Ng.slot(h:Ng s)(c i:Nat):jE ((s.M c).getD i (0,0)):=jE.getD (h.M c) i
theorem Ng.same(h:Ng s)(u:∀t,(s'.T t).fr=(s.T t).fr:=by intro t;rfl)(o:s'.M=s.M:=by rfl)(e:s'.out=s.out:=by rfl):Ng s':=
 ⟨λt f i=>h.F t f eR,eV o h.M,eV e h.O⟩
theorem Ng.dx(h:Ng s){x:qA}(hx:∀f,f∈x.fr->∀a,jE (f.R a)):Ng (s.dx t x):=
 ⟨λu f i=>by
  by_cases e:u=t
  .subst e;rw[di]at i;grind
  have:(s.dx t x).T u=s.T u:=au e;rw[this]at i;exact h.F u f i,h.M,h.O⟩
theorem Ng.dJ(h:Ng s)(i:Nat){f:jc}(G:∀a,jE (f.R a)):Ng (s.dJ t i f):=
 h.dx (λy u=>by
  grind[List.mem_or_eq_of_mem_set,F.Ng.F])
theorem Ng.set{f:jc}(e:∀a,jE (f.R a))(a:Nat){v:B.V}(i:jE v)(b:Nat):jE ((f.set a v).R b):=by
 show jE (B.set f.R a v b);grind[B.set]
theorem Ng.oK(h:Ng s)(i a:Nat){v:B.V}(e:jE v):Ng (s.dJ t i ((dq s t i).set a v)):=h.dJ i (Ng.set (λb=>h.at t i b) a e)
theorem Ng.join(h:Ng s)(x y t:Nat):Ng (s.dY x y t):=h.same (λu=>yQ s x y t u) (jg s x y t).2.2.2.2.2.2.1 (jg s x y t).2.1
theorem Ng.gn(h:Ng s)(t:Nat){v:B.V}(e:jE v):Ng (s.gn t v):=by
 grind[Pl.gn,F.Ng.join,F.Ng.oK]
theorem Ng.eo{v:B.V}(e:jE v):∀(l:List Nat) {s:Pl},Ng s->Ng (s.eo v l)
 | [],_,h=>h
 | u :: l,s,h=>by
  show Ng ((s.gn u v).eo v l);exact Ng.eo e l (h.gn u e)
theorem Ng.gone(h:Ng s)(t kind:Nat)(x:Int){v:B.V}(o:jE v):Ng (s.gone t v kind x):=by
 obtain⟨_,W,_,_,_,_,J,_⟩:=ja s t v kind x;refine⟨λu f G=>?_,eV J h.M,λy i=>?_⟩
 .refine h.F u f ?_;rw[<-kg s t u];have H:((s.gone t v kind x).T u).fr=((s.dz t).T u).fr:=by
   show(((s.dz t).dx t ((s.dz t).T t).stop).T u).fr=_;by_cases e:u=t
   .subst e;rw[di];rfl
   rw[show((s.dz t).dx t ((s.dz t).T t).stop).T u=(s.dz t).T u from au e]
  grind
 rw[W]at i;grind[List.mem_or_eq_of_mem_set,F.Ng.O]
theorem Ng.leave(h:Ng s)(t kind:Nat)(x:Int){v:B.V}(e:jE v):Ng (s.leave t v kind x):=Ng.eo e _ (h.gone t kind x e)
theorem Ng.pop(h:Ng s)(t:Nat):Ng (s.pop t):=h.dx (λf e=>h.F t f (List.dropLast_subset _ e))
theorem Ng.back(h:Ng s)(t:Nat){v:B.V}(e:jE v):Ng (s.back t v):=by
 grind[Pl.back,Ng.set,F.Ng.dJ,F.Ng.pop,F.Ng.at,F.Ng.leave]
theorem Ng.ig{u v:B.V}(e:jE u)(i:jE v)(a:Nat):jE (ig u v a):=by
 grind[YtnjiinbhbjpfkaaGreatDoor.ig,jE.z]
theorem Ng.push(h:Ng s)(t:Nat){f:jc}(y:∀a,jE (f.R a)):Ng (s.push t f):=h.dx (λu o=>by
 rcases dV.1 o with e|e
 .exact h.F t u e
 grind)
def Ng.more(h:Ng s):Ng s.more:=by
 refine⟨λt f u=>?_,h.M,λv y=>?_⟩
 .have i:f∈(if t=s.nt+1 then rZ else s.T t).fr:=u;by_cases e:t=s.nt+1
  .rw[bf e]at i
   cases i
  rw[au e]at i;exact h.F t f i
 rcases dV.1 y with e|e
 .exact h.O v e
 rw[fX]at e;rw[e];exact jE.z
theorem Ng.born(h:Ng s)(f:Nat){u v:B.V}(e:jE u)(i:jE v):Ng (s.born f u v):=(h.more.push _ (λa=>Ng.ig e i a)).join 2 0 _
theorem Ng.lay{M:Nat->List B.V}(h:∀c v,v∈M c->jE v)(a:Nat){l:List B.V}(o:∀v,v∈l->jE v):∀c v,v∈B.lay M a l c->jE v:=λc v i=>by
 unfold B.lay at i;grind
theorem Ng.wait(h:Ng s)(x y t:Nat)(k:Nat×Nat×Nat×Nat):Ng (s.wait x y t k):=(h.join x y t).dx (λf e=>(h.join x y t).F t f e)
theorem Ng.iq(h:Ng s)(t:Nat)(u:Int):Ng (s.iq t u):=by
 have y:Ng (s.fK t u):=h.dx (λf e=>h.F t f e);have i:Ng ((s.fK t u).dz t):=y.same (λv=>kg _ t v) (g8 _ t).2.2.2.2.2.2.2.2.1 (g8 _ t).2.1;unfold Pl.iq Pl.into Pl.oL;exact i.same.dx (λf e=>i.F t f e)
def Ng.made(h:Ng s){t a ty:Nat}{l:List B.V}(y:∀v,v∈l->jE v)(u:mM p s t a ty l s'):Ng s':=by
 rcases u with⟨c,e,_,_,_,_,_,rfl⟩|⟨_,e,_,rfl⟩
 .have i:Ng (s.oS e c ty l):=⟨h.F,Ng.lay h.M c y,h.O⟩;exact i.dJ _ (Ng.set (λb=>h.at t _ b) a jE.z)
 have i:Ng (s.dx t (s.T t).stop):=h.dx (λf o=>h.F t f o);exact i.same
def Ng.two(h:Ng s){o a b c:Nat}{why:Int}(e:xT s t o a b c why s'):Ng s':=by
 rcases e with⟨_,_,rfl⟩|⟨_,_,rfl⟩
 .exact h.oK _ a (jE.arith _ _ _)
 exact h
theorem Bs(h:Ng s)(x:B.V):jE (fz s x).2.1:=by
 grind[fz,jE.z,F.Ng.slot]
theorem Ng.inst(h:Ng s){k:F.vF}{why:Int}(hR:Rn p s t)(hn:s.nt+1<=500000000)(J:Kt p (bw s t).f k)(hi:kM p s t k why s'):Ng s':=by
 obtain⟨i,a,b,c⟩:=k;obtain⟨k1,k2,G,H,_⟩:=J;simp only at k1 k2 G H;have o:∀a,jE ((bw s t).R a):=λa=>h.at t _ a;have W:=oU 22 i ag
 repeat' rcases W with rfl|W
 .rw[hi.2];exact h.oK _ _ (jE.wide G H)
 .rw[hi.2];exact h.oK _ _ (o _)
 .exact h.two hi
 .exact h.two hi
 .exact h.two hi
 .exact h.two hi
 .rw[hi.2];refine h.oK _ _ ?_;grind[jE.n,jE.z]
 .rw[hi.2];exact h.dJ _ o
 .rw[hi.2];exact h.dJ _ o
 .exact h.made (λv y=>by grind[jE.z]) hi.2
 .rcases hi with⟨_,_,e⟩|⟨_,_,e⟩
  .grind[F.Ng.oK,F.Ng.slot]
  grind
 .rcases hi with⟨_,_,e⟩|⟨_,_,e⟩
  .rw[e];exact⟨h.F,Ng.lay h.M _ (λv y=>by
    grind[List.mem_or_eq_of_mem_set,F.Ng.M]),h.O⟩
  grind
 .exact h.made (λv y=>by grind) hi.2
 .rw[hi.2];grind[mS,Ng.ig,Bs,F.Ng.push]
 .rw[hi.2];exact h.back _ (o _)
 .rw[hi.2];grind[lV,Bs,Ng.set,jE.n,F.Ng.dJ,F.Ng.born]
 .rw[hi.2];exact h.join _ _ _
 .rw[hi.2];grind[jl,F.Ng.iq]
 .rw[hi.2];unfold jb;split
  .split
   .show Ng (match gW s ((bw s t).R b).2 with|some u=>s.wait 5 u t (18,a,b,c)|none=>_);grind[jE.getD,F.Ng.wait,F.Ng.oK,F.Ng.O]
   exact h
  exact h
 .rw[hi.2];unfold iz;split
  .split
   .show Ng (match gW s ((bw s t).R a).2 with|some u=>s.leave u (0,-100) 4 0|none=>s);grind[jE.n,F.Ng.leave]
   exact h
  exact h
 .rw[hi.2];unfold jU;split
  .exact h.same
  exact h
 .rw[hi.2];unfold kJ;split
  .split
   .show Ng (match s.ft ((bw s t).R b).2.toNat with|x :: bs=>_|[]=>_);split
    .rename_i x bs e;have Z:=(hR.ok.bt _).2 x (by rw[e];simp);exact h.same.dJ _ (Ng.set o _ (jE.n ag ag))
    exact h.wait _ _ _ _
   exact h
  exact h
 rw[hi.2];exact h.oK _ _ (jE.n (gp hR.ok.c0) (gp hR.ok.c1))
def Ng.start(h:Ng s)(t:Nat):Ng (s.start t):=by
 have e:=h.same (λv=>kg _ t v) (g8 _ t).2.2.2.2.2.2.2.2.1 (g8 _ t).2.1;exact e.dx (λf i=>e.F t f i)
theorem Ng.ends(p:dL)(t:Nat):∀(n:Nat) {s:Pl},Ng s->Ng (s.ends p t n)
 | 0,_,h=>h
 | n+1,s,h=>by
  unfold Pl.ends;split
  .exact Ng.ends p t n (h.back t jE.z)
  exact h
theorem Ng.gF(h:Ng s)(t:Nat):Ng (s.gF t):=h.dJ _ (λa=>h.at t _ a)
theorem Ng.iD:∀(l:List Nat) {s:Pl},Ng s->Ng (s.iD l)
 | [],_,h=>h
 | t :: l,s,h=>by
  unfold Pl.iD;split
  .exact Ng.iD l (h.join 2 0 t)
  exact h
theorem Ng.fh:∀(l:List (Int×Nat)) {s:Pl},(∀x,x∈l->x.2<256)->Ng s->Ng (s.fh l)
 | [],_,_,h=>h
 | x :: l,s,hl,h=>by
  show Ng ((s.recv x).fh l);refine Ng.fh l (λy e=>hl y (by simp[e])) ?_;unfold Pl.recv;split
  .unfold Pl.qe;split
   .exact h.gn _ (jE.n ag (by have:=hl x eB;omega))
   split
   .exact h.same
   exact h
  exact h
end F
namespace F
variable {p:dL}{s s' x:Pl}{t:Nat}
def lQ(n:Nat)(h:¬((s.T t).run=true/\(bw s t).nx=p.len (bw s t).f)):s.ends p t n=s:=by
 cases n with
 | zero=>rfl
 | succ n=>unfold Pl.ends;rw[au h]
theorem Rn.back(h:Rn p s t)(i:de s t≠0):Rn p (s.back t (0,0)) t/\((s.back t (0,0)).T t).fr.length+1=(s.T t).fr.length:=by
 have e:=(od h.ok.lw h.ht (0,0)).2 i;obtain⟨o,G,y,u⟩:=(nz s t (0,0)).2 i;exact⟨⟨h.ok.back h.lv h.wh (dW.num 0),eV o h.lv,eV e.1 h.run⟩,by have:=h.hi;rw[e.2];omega⟩
def oc(h:Rn p s t)(e:de s t=0):((s.back t (0,0)).T t).run=false:=(od h.ok.lw h.ht (0,0)).1 e
theorem wo:∀(n:Nat) {s:Pl},((s.T t).run=true->Rn p s t)->((s.T t).run=true->(s.T t).fr.length<=n)->s.ends p t n=s.ends p t (n+1)
 | 0,s,h,hl=>by
  by_cases e:(s.T t).run=true
  .have:=(h e).hi;have:=hl e;omega
  rw[lQ 0 (λh=>e h.1),lQ 1 (λh=>e h.1)]
 | n+1,s,h,hl=>by
  by_cases e:(s.T t).run=true/\(bw s t).nx=p.len (bw s t).f
  .have hR:=h e.1;have y:s.ends p t (n+1)=(s.back t (0,0)).ends p t n:=by show Pl.ends p t (n+1) s=_;unfold Pl.ends;rw[bf e];cases n<;>rfl
   have u:s.ends p t (n+1+1)=(s.back t (0,0)).ends p t (n+1):=by show Pl.ends p t (n+1+1) s=_;rw[Pl.ends,bf e]
   rw[y,u];by_cases o:de s t=0
   .have i:=oc hR o;rw[lQ n (λh=>by rw[i]at h;cases h.1),lQ (n+1) (λh=>by rw[i]at h;cases h.1)]
   obtain⟨k1,k2⟩:=hR.back o;exact wo n (λ_=>k1) (λ_=>by have:=hl e.1;omega)
  rw[lQ _ e,lQ _ e]
def CV(h:Rn p s t)(e:(bw s t).nx=p.len (bw s t).f):s.ends p t 21=(s.back t (0,0)).ends p t 21:=by
 have u:s.ends p t 21=(s.back t (0,0)).ends p t 20:=by show Pl.ends p t (20+1) s=_;rw[Pl.ends,bf ⟨h.run,e⟩]
 rw[u];refine wo 20 (λi=>?_) (λi=>?_)
 .by_cases o:de s t=0
  .rw[oc h o]at i;cases i
  exact(h.back o).1
 by_cases o:de s t=0
 .rw[oc h o]at i;cases i
 have:=(h.back o).2;have:=h.fw.n2;omega
def pF{k:Nat}(h:iu p t k x s')(e:(x.T t).run=false):s'=x:=by
 cases k with
 | zero=>exact h
 | succ k=>
  unfold iu at h;rw[au (by rw[e];decide)]at h;exact h
def Ca{k:Nat}(h:Rn p s t)(e:(bw s t).nx=p.len (bw s t).f)(u:iu p t (k+1) s s'):(de s t=0->s'=s.back t (0,0))/\(de s t≠0->iu p t (k+1) (s.back t (0,0)) s'):=by
 unfold iu at u;rw[bf h.run]at u;obtain⟨x,i,G⟩:=u;unfold jz at i;rw[CV h e]at i;constructor
 .intro y;have o:=oc h y;rw[lQ 21 (λh=>by rw[o]at h;cases h.1),au (by rw[o];decide)]at i;subst i;exact pF G o
 intro y;unfold iu;rw[bf (h.back y).1.run];exact⟨x,i,G⟩
def B9{k:Nat}(h:Rn p s t)(e:(bw s t).nx≠p.len (bw s t).f)(i:iu p t (k+1) s s'):∃why s3,kM p (s.gF t) t (p.ins (bw s t).f (bw s t).nx) why s3/\iu p t k (if why=0 then s3 else s3.leave t (0,-why) 3 why) s':=by
 unfold iu at i;rw[bf h.run]at i;obtain⟨x,o,y⟩:=i;unfold jz at o;rw[lQ 21 (λh=>e h.2),bf h.run]at o;obtain⟨why,s3,u,rfl⟩:=o;exact⟨why,s3,u,y⟩
def Go.Oy{t c:Nat}{s s':Pl}(h:Go t c s s'):s'.ev.length<=s.ev.length+c:=by
 obtain⟨l,e,i,_⟩:=h;rw[e,cw];omega
end F
namespace D
open F
variable {p:dL}{d:Dp}{K:Nat}{s:Pl}{m m':Dm}{g g':Dg}{w w':aa}{ρ:Nat → Nat}
def dZ.Lv{p:Dp}(h:dZ p m g w)(u:dM (λk=>k=g.mb) w w')(e:m'.nt=m.nt/\m'.T=m.T/\m'.q=m.q/\m'.ft=m.ft/\m'.nc=m.nc/\m'.M=m.M/\m'.ck=m.ck/\m'.ev=m.ev)(G:Full w' g.mb 112 24 24 (mE p m' g)):Tr p m g w m' g w':=by
 obtain⟨a1,a2,a3,a4,a5,Z,a7,a8⟩:=m;obtain⟨b1,Y,W,b4,J,b6,b7,b8⟩:=m';simp only at e;obtain⟨rfl,rfl,rfl,rfl,rfl,rfl,rfl,rfl⟩:=e;refine h.one 0 0 0 rfl (λx y z=>rfl) u (λx y z i hn=>?_) G (λk o=>af o);exact ok_eq (e0:=λe=>dp e (λe=>hn ⟨e,kS i (af ag)⟩)) (hx:=l9 i)
def Dc.Ib(c:Dc)(n N:Nat):Dc:=if c.bg=true then c else { c with bg:=true,lK:=wrap64 ((N:Int)+(n:Int)),sure:=N }
def Dc.Iy(c:Dc)(wk:Nat):Int:=if c.lK<(wk:Int) then c.lK else(wk:Int)
def Dc.F2(c:Dc)(wk:Nat):Dc:={ c with lK:=wrap64 (c.lK-c.Iy wk),gw:=wrap64 (c.gw+c.Iy wk) }
def Dc.fin(c:Dc):Dc:=if c.lK=0 then { c with bg:=false,xK:=wrap64 (c.xK+1),nF:=c.sure } else c
def Dc.tv(c:Dc)(n wk N:Nat):Dc:=if c.fu=true then c else((c.Ib n N).F2 wk).fin
def fM{b:Nat}{S:Nat->Prop}(hS:S b){w0 w:aa}(h:dM S w0 w)(o:Nat)(v:Value):dM S w0 (w.setCell (ay b o) v):=bp h (af hS) _
def oO(d:Dp)(m:Dm)(g:Dg)(w w':aa):Prop:=∃N:Nat,(m.G.fu=false->m.G.bg=false->lZ d m N)/\Tr d m g w (m.iY (m.G.tv d.n d.wk N)) g w'
def oO.mk'{G:Dc}{w2:aa}{N:Nat}(h:dZ d m g w)(e:w.grownBy w2 none)(i:m.G.fu=false->m.G.bg=false->lZ d m N)(hG:m.G.tv d.n d.wk N=G)(u:dM (λk=>k=g.mb) w2 w')(o:Full w' g.mb 112 24 24 (mE d (m.iY G) g)):oO d m g w w':=by
 refine⟨N,i,?_⟩;rw[hG];exact(dZ.Lv (m':=m.iY G) (h.kept e) u ⟨rfl,rfl,rfl,rfl,rfl,rfl,rfl,rfl⟩ o).ahead e
theorem Mq(h:dZ d m g w)(y:Dd d m)(i:m.G.fu=true):eL 146 #[P0 g.mb] w λw'=>oO d m g w w':=by
 obtain⟨o,a5⟩:=h.mc 23 ag (v:=.bool m.G.fu) rfl;have le:=h.M.lt;have HR:=bj h;have W:=bj (pj h y);have q0:=dN 0 ag;rw[i]at o;have u:=bj i;delta eL;go_in;go_wp2
 refine dg (results_none rfl _ _ _) rfl ?_;refine⟨rfl,0,λe=>(by grind),?_⟩;have e:m.iY (m.G.tv d.n d.wk 0)=m:=by
  unfold Dc.tv;rw[bf u.out];rfl
 grind[Tr.refl]
theorem Mo(h:dZ d m g w)(hC:Dd d m)(hf:m.G.fu=false)(hb:m.G.bg=true):Calls prog 146 #[P0 g.mb] w λe w'=>e=.returned (.tuple #[])/\oO d m g w w':=by
 obtain⟨c3,_⟩:=h.mc 3 ag (v:=.int .i64 d.wk) rfl;obtain⟨a1,a4⟩:=h.mc 17 ag (v:=.bool m.G.bg) rfl;obtain⟨a2,a7⟩:=h.mc 18 ag (v:=.int .i64 m.G.lK) rfl;obtain⟨aD,a8⟩:=h.mc 19 ag (v:=.int .i64 m.G.sure) rfl;obtain⟨aE,a3⟩:=h.mc 20 ag (v:=.int .i64 m.G.nF) rfl;obtain⟨aC,a6⟩:=h.mc 21 ag (v:=.int .i64 m.G.gw) rfl;obtain⟨aB,aA⟩:=h.mc 22 ag (v:=.int .i64 m.G.xK) rfl;obtain⟨a0,a5⟩:=h.mc 23 ag (v:=.bool m.G.fu) rfl;have le:=h.M.lt;have Y:=bj h;have a9:=bj (pj h hC);rw[hf]at a0;have Z:=bj hf;rw[hb]at a1;have u:=bj hb;have HM:=bj Y.M;generalize hl:m.G.lK=lK at *;generalize hu:m.G.gw=gw at *;generalize y:m.G.xK=xK at *;have o:=bj (bh hl (bh hu y));by_cases J:lK<(d.wk:Int)
 .go_in;go_wp2_with fail
  go_end0;refine⟨rfl,oO.mk' (N:=0) (G:={ m.G with lK:=0,gw:=wrap64 (gw+lK),bg:=false,xK:=wrap64 (xK+1),nF:=m.G.sure }) Y (aw _ _) (λ_ e=>by grind) (by grind[Dc.tv,Dc.Ib,Dc.F2,Dc.Iy,Dc.fin,IntWalk.wrap64_in]) (fM (b:=g.mb) (S:=λk=>k=g.mb) rfl (fM (b:=g.mb) (S:=λk=>k=g.mb) rfl (fM (b:=g.mb) (S:=λk=>k=g.mb) rfl (fM (b:=g.mb) (S:=λk=>k=g.mb) rfl (fM (b:=g.mb) (S:=λk=>k=g.mb) rfl (dw _ _) 18 _) 21 _) 17 _) 22 _) 20 _) (((((((HM).eC 18 _).eC 21 _).eC 17 _).eC 22 _).eC 20 _).congr (λi hi=>?_))⟩;have H:i=0\/i=1\/i=2\/i=3\/i=4\/i=5\/i=6\/i=7\/i=8\/i=9\/i=10\/i=11\/i=12\/i=13\/i=14\/i=15\/i=16\/i=17\/i=18\/i=19\/i=20\/i=21\/i=22\/i=23:=ag
  rcases H with rfl|rfl|rfl|rfl|rfl|rfl|rfl|rfl|rfl|rfl|rfl|rfl|rfl|rfl|rfl|rfl|rfl|rfl|rfl|rfl|rfl|rfl|rfl|rfl<;>rfl
 have W:=bj J;by_cases hz:wrap64 (lK-(d.wk:Int))=0
 .go_in;go_wp2_with fail
  go_end0;refine⟨rfl,oO.mk' (N:=0) (G:={ m.G with lK:=0,gw:=wrap64 (gw+(d.wk:Int)),bg:=false,xK:=wrap64 (xK+1),nF:=m.G.sure }) Y (aw _ _) (λ_ e=>by grind) (by simp_all[Dc.tv,Dc.Ib,Dc.F2,Dc.Iy,Dc.fin,au]) (fM (b:=g.mb) (S:=λk=>k=g.mb) rfl (fM (b:=g.mb) (S:=λk=>k=g.mb) rfl (fM (b:=g.mb) (S:=λk=>k=g.mb) rfl (fM (b:=g.mb) (S:=λk=>k=g.mb) rfl (fM (b:=g.mb) (S:=λk=>k=g.mb) rfl (dw _ _) 18 _) 21 _) 17 _) 22 _) 20 _) (((((((HM).eC 18 _).eC 21 _).eC 17 _).eC 22 _).eC 20 _).congr (λi hi=>?_))⟩;have H:i=0\/i=1\/i=2\/i=3\/i=4\/i=5\/i=6\/i=7\/i=8\/i=9\/i=10\/i=11\/i=12\/i=13\/i=14\/i=15\/i=16\/i=17\/i=18\/i=19\/i=20\/i=21\/i=22\/i=23:=ag
  rcases H with rfl|rfl|rfl|rfl|rfl|rfl|rfl|rfl|rfl|rfl|rfl|rfl|rfl|rfl|rfl|rfl|rfl|rfl|rfl|rfl|rfl|rfl|rfl|rfl<;>rfl
 go_in;go_wp2_with fail
 go_end0;refine⟨rfl,oO.mk' (N:=0) (G:={ m.G with lK:=wrap64 (lK-(d.wk:Int)),gw:=wrap64 (gw+(d.wk:Int)) }) Y (aw _ _) (λ_ e=>by grind) (by simp_all[Dc.tv,Dc.Ib,Dc.F2,Dc.Iy,Dc.fin,au]) (fM (b:=g.mb) (S:=λk=>k=g.mb) rfl (fM (b:=g.mb) (S:=λk=>k=g.mb) rfl (dw _ _) 18 _) 21 _) ((((HM).eC 18 _).eC 21 _).congr (λi hi=>?_))⟩;have H:i=0\/i=1\/i=2\/i=3\/i=4\/i=5\/i=6\/i=7\/i=8\/i=9\/i=10\/i=11\/i=12\/i=13\/i=14\/i=15\/i=16\/i=17\/i=18\/i=19\/i=20\/i=21\/i=22\/i=23:=ag
 rcases H with rfl|rfl|rfl|rfl|rfl|rfl|rfl|rfl|rfl|rfl|rfl|rfl|rfl|rfl|rfl|rfl|rfl|rfl|rfl|rfl|rfl|rfl|rfl|rfl<;>rfl
def lZ.le{N:Nat}(h:lZ d m N)(i:Dd d m):N<=m.nc:=by
 obtain⟨l,u,o,rfl⟩:=h;exact gK m.nc l u (λc e=>⟨(i.c c ((o c).1 e)).1,(i.c c ((o c).1 e)).2.1⟩)
theorem Mp(h:dZ d m g w)(hC:Dd d m)(hf:m.G.fu=false)(hb:m.G.bg=false)(b7:d.n<=1000000):eL 146 #[P0 g.mb] w λw'=>oO d m g w w':=by
 obtain⟨c1,_⟩:=h.mc 1 ag (v:=aj d.n) rfl;obtain⟨c3,_⟩:=h.mc 3 ag (v:=aj d.wk) rfl;obtain⟨Z,a1⟩:=h.mc 17 ag (v:=.bool m.G.bg) rfl;obtain⟨aG,a6⟩:=h.mc 18 ag (v:=aj m.G.lK) rfl;obtain⟨aE,a9⟩:=h.mc 19 ag (v:=aj m.G.sure) rfl;obtain⟨aF,aH⟩:=h.mc 20 ag (v:=aj m.G.nF) rfl;obtain⟨aK,a2⟩:=h.mc 21 ag (v:=aj m.G.gw) rfl;obtain⟨aI,aC⟩:=h.mc 22 ag (v:=aj m.G.xK) rfl;obtain⟨a3,aU⟩:=h.mc 23 ag (v:=.bool m.G.fu) rfl;have le:=h.M.lt;change Hid _ at h;have aB:=bj (pj h hC);have a4:=bj (bh (λN (hN:lZ d m N)=>hN.le hC) hC.n2);clear hC;rw[hf]at a3;have HF:=bj hf;clear hf;rw[hb]at Z;have HB:=bj hb;clear hb;generalize hu:m.G.gw=gw at *;generalize a5:m.G.xK=xK at *;have H:=bj (bh hu a5);clear hu a5;delta eL;go_in;go_wp2_with fail
 refine aB.mono ?_;rintro e w2 ⟨N,rfl,hN,u⟩;change Hid _ at u;have HN:=bj hN;have HM:Hid (Full w2 g.mb 112 24 24 (mE d m g)):=(h.kept u).M;have e1:=(bd u (a:=ay g.mb 1) le).1.trans c1;have e3:=(bd u (a:=ay g.mb 3) le).1.trans c3;have aQ:=(bd u (a:=ay g.mb 17) le).1.trans Z;have aN:=(bd u (a:=ay g.mb 17) le).2.trans a1;have aM:=(bd u (a:=ay g.mb 18) le).1.trans aG;have aV:=(bd u (a:=ay g.mb 18) le).2.trans a6;have aP:=(bd u (a:=ay g.mb 19) le).1.trans aE;have aW:=(bd u (a:=ay g.mb 19) le).2.trans a9;clear aB c1 c3 Z aG aE aF aK aI a3 a1 a6 a9 aH a2 aC aU;have aZ:N<=1000000000:=by have h1:=a4.1 N hN;have h2:=a4.2;omega
 clear hN;have qb:IntKind.i64.wrap ((N:Int)+(d.n:Int))=(N:Int)+(d.n:Int):=iU
 have QW:Hid (wrap64 ((N:Int)+(d.n:Int))=(N:Int)+(d.n:Int)):=dN _ ag;go_upto_region 8 with fail
 generalize hl:(N:Int)+(d.n:Int)=lK at *;have HL:Hid (wrap64 ((N:Int)+(d.n:Int))=lK):=(congrArg wrap64 hl).trans QW;clear hl;have o:Hid (Full (((w2.setCell (ay g.mb 17) (.bool true)).setCell (ay g.mb 18) (aj lK)).setCell (ay g.mb 19) (aj N)) g.mb 112 24 24 (eC (eC (eC (mE d m g) 17 (.bool true)) 18 (aj lK)) 19 (aj N))):=((HM.eC 17 _).eC 18 _).eC 19 _;have a0:Hid (dM (λk=>k=g.mb) w2 (((w2.setCell (ay g.mb 17) (.bool true)).setCell (ay g.mb 18) (aj lK)).setCell (ay g.mb 19) (aj N))):=fM (b:=g.mb) (S:=λk=>k=g.mb) rfl (fM (b:=g.mb) (S:=λk=>k=g.mb) rfl (fM (b:=g.mb) (S:=λk=>k=g.mb) rfl (dw _ _) 17 _) 18 _) 19 _;clear e1 e3 aQ aM aP aN aV aW;generalize (((w2.setCell (ay g.mb 17) (.bool true)).setCell (ay g.mb 18) (aj lK)).setCell (ay g.mb 19) (aj N))=y at *;have J:dS y g.mb 17=some (.bool true)/\y.frozen? (ay g.mb 17)=false:=o.cells 17 ag;have aD:dS y g.mb 18=some (aj lK)/\y.frozen? (ay g.mb 18)=false:=o.cells 18 ag;have a8:dS y g.mb 19=some (aj N)/\y.frozen? (ay g.mb 19)=false:=o.cells 19 ag;have a7:dS y g.mb 20=some (aj m.G.nF)/\y.frozen? (ay g.mb 20)=false:=o.cells 20 ag;have W:dS y g.mb 21=some (aj m.G.gw)/\y.frozen? (ay g.mb 21)=false:=o.cells 21 ag;have Y:dS y g.mb 22=some (aj m.G.xK)/\y.frozen? (ay g.mb 22)=false:=o.cells 22 ag;rw[H.1]at W;rw[H.2]at Y;obtain⟨J,b1⟩:=J;obtain⟨aD,b5⟩:=aD;obtain⟨a8,b6⟩:=a8;obtain⟨a7,b3⟩:=a7;obtain⟨W,b0⟩:=W;obtain⟨Y,b2⟩:=Y;by_cases aA:lK<(d.wk:Int)
 .go_wp2
  go_end0;refine⟨rfl,oO.mk' (N:=N) (G:={ m.G with lK:=0,sure:=N,gw:=wrap64 (gw+lK),bg:=false,xK:=wrap64 (xK+1),nF:=N }) h u (λ_ _=>HN) (by simp[Dc.tv,Dc.Ib,Dc.F2,Dc.Iy,Dc.fin,HF.out,HB.out,H.1,H.2,HL.out,aA,dN 0 ag]) (fM (b:=g.mb) (S:=λk=>k=g.mb) rfl (fM (b:=g.mb) (S:=λk=>k=g.mb) rfl (fM (b:=g.mb) (S:=λk=>k=g.mb) rfl (fM (b:=g.mb) (S:=λk=>k=g.mb) rfl (fM (b:=g.mb) (S:=λk=>k=g.mb) rfl (a0) 18 _) 21 _) 17 _) 22 _) 20 _) (((((((o).eC 18 _).eC 21 _).eC 17 _).eC 22 _).eC 20 _).congr (λi hi=>?_))⟩;have hc:=oU 23 i ag
  rcases hc with rfl|rfl|rfl|rfl|rfl|rfl|rfl|rfl|rfl|rfl|rfl|rfl|rfl|rfl|rfl|rfl|rfl|rfl|rfl|rfl|rfl|rfl|rfl|rfl<;>rfl
 have aJ:=bj aA;by_cases hz:wrap64 (lK-(d.wk:Int))=0
 .go_wp2
  go_end0;refine⟨rfl,oO.mk' (N:=N) (G:={ m.G with lK:=0,sure:=N,gw:=wrap64 (gw+(d.wk:Int)),bg:=false,xK:=wrap64 (xK+1),nF:=N }) h u (λ_ _=>HN) (by simp[Dc.tv,Dc.Ib,Dc.F2,Dc.Iy,Dc.fin,HF.out,HB.out,H.1,H.2,HL.out,au (by omega:¬lK<(d.wk:Int)),hz]) (fM (b:=g.mb) (S:=λk=>k=g.mb) rfl (fM (b:=g.mb) (S:=λk=>k=g.mb) rfl (fM (b:=g.mb) (S:=λk=>k=g.mb) rfl (fM (b:=g.mb) (S:=λk=>k=g.mb) rfl (fM (b:=g.mb) (S:=λk=>k=g.mb) rfl (a0) 18 _) 21 _) 17 _) 22 _) 20 _) (((((((o).eC 18 _).eC 21 _).eC 17 _).eC 22 _).eC 20 _).congr (λi hi=>?_))⟩;have hc:=oU 23 i ag
  rcases hc with rfl|rfl|rfl|rfl|rfl|rfl|rfl|rfl|rfl|rfl|rfl|rfl|rfl|rfl|rfl|rfl|rfl|rfl|rfl|rfl|rfl|rfl|rfl|rfl<;>rfl
 go_wp2
 go_end0;refine⟨rfl,oO.mk' (N:=N) (G:={ m.G with lK:=wrap64 (lK-(d.wk:Int)),sure:=N,gw:=wrap64 (gw+(d.wk:Int)),bg:=true }) h u (λ_ _=>HN) (by simp[Dc.tv,Dc.Ib,Dc.F2,Dc.Iy,Dc.fin,HF.out,HB.out,H.1,H.2,HL.out,au (by omega:¬lK<(d.wk:Int)),hz]) (fM (b:=g.mb) (S:=λk=>k=g.mb) rfl (fM (b:=g.mb) (S:=λk=>k=g.mb) rfl (a0) 18 _) 21 _) ((((o).eC 18 _).eC 21 _).congr (λi hi=>?_))⟩;have hc:=oU 23 i ag
 rcases hc with rfl|rfl|rfl|rfl|rfl|rfl|rfl|rfl|rfl|rfl|rfl|rfl|rfl|rfl|rfl|rfl|rfl|rfl|rfl|rfl|rfl|rfl|rfl|rfl<;>rfl
theorem Fl(h:dZ d m g w)(i:Dd d m)(o:d.n<=1000000):eL 146 #[P0 g.mb] w λw'=>oO d m g w w':=by
 grind[Mq,Mo,Mp]
