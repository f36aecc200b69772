import Derived.Test.YtnjiinbhbjpfkaaGreatDoorStpT
set_option maxRecDepth 100000
set_option maxHeartbeats 0
set_option linter.all false
namespace Go.Proofs.YtnjiinbhbjpfkaaGreatDoor
open Go.RowKit Go.Proofs.Tryz
namespace D
open F
variable {d : Dp} {m m' : Dm} {g g' : Dg} {w w' : World}
def nR(w0 wr:World)(ad:Option Addr)(n c:Nat)(L:List B.V):Prop:=wr.ownsRow 0 115 2 (.slice ad n c) n (fT L)/\(∀k,eO ad=some k->w0.heap.size<=k)/\w0.grownBy wr none
theorem oY(l r:List B.V):fT (l++r)=fT l++fT r:=by unfold fT;rw[List.flatMap_append]
theorem jr(l:List B.V):(fT l).length=l.length*2:=by
 induction l with
 | nil=>rfl
 | cons a l e=>
  show([_,_]++fT l).length=_;rw[bo,e];simp;omega
theorem mJ:∀(l:List B.V) (j:Nat) (v:B.V),l[j]? = some v->(fT l)[j*2]? = some (.int .i64 v.1)/\(fT l)[j*2+1]? = some (.int .i64 v.2)
 | [],j,v,h=>by simp at h
 | a :: l,0,v,h=>by
  simp at h;subst h
  exact⟨rfl,rfl⟩
 | a :: l,j+1,v,h=>by
  have:=mJ l j v (by simpa using h);have e:(j+1)*2=j*2+1+1:=by omega
  rw[e,show j*2+1+1+1=(j*2+1)+1+1 by omega];show((_ :: _ :: fT l)[j*2+1+1]? = _)/\((_ :: _ :: fT l)[(j*2+1)+1+1]? = _);simpa using this
theorem nR.cell{w0 wr:World}{ad:Option Addr}{n c:Nat}{L:List B.V}(h:nR w0 wr ad n c L)(hn:n=L.length){i:Nat}{v:B.V}(hi:L[i]? = some v):∃b,ad=some ⟨b,0,none⟩/\b<wr.heap.size/\wr.cell? ⟨b,i*2,none⟩=some (.int .i64 v.1)/\wr.cell? ⟨b,i*2+1,none⟩=some (.int .i64 v.2):=by
 have Y:=(bu.1 hi).1;obtain⟨b,c',e⟩:=dM h.1 (by omega);injection e with e1 _ _;subst e1;have h1:=h.1;rcases h1.2 with⟨h2,_⟩|⟨g',y,J,k1,_,G,k4,k5,k6,k7⟩
 .cases h2
 cases k1;have H:∀j u,(fT L)[j]? = some u->j<n*2->wr.cell? ⟨b,j,none⟩=some u:=λj u o W=>by
  rw[<-k7,dh,aj W]at o;simp only[World.cell?,G];simpa using o
 obtain⟨a1,Z⟩:=mJ L i v hi;exact⟨b,rfl,bz G,H _ _ a1 (by omega),H _ _ Z (by omega)⟩
theorem nR.app{w0 wr J:World}{ad:Option Addr}{n c b G z:Nat}{L R:List B.V}{W:World}(h:nR w0 wr ad n c L)(i:wr.grownBy W none)(ho:J.ownsRow 0 115 2 (.slice (some ⟨b,0,none⟩) (n+R.length) G) (n+R.length) (fT L++fT R))(u:W.grownBy J (Value.slice ad n c).ownBlock)(hz:wr.heap.size<=z)(H:jE z (.slice ad n c) (.slice (some ⟨b,0,none⟩) (n+R.length) G)):nR w0 J (some ⟨b,0,none⟩) (n+R.length) G (L++R):=by
 obtain⟨h1,Z,o⟩:=h;rw[dr]at u;refine⟨by rw[oY];exact ho,λk y=>?_,?_⟩
 .have Y:k=b:=by
   have:some b=some k:=y;injection this with this;exact this.symm
  subst Y;rcases H with e|⟨b',e1,e2⟩
  .have e':some k=eO ad:=by rw[<-dr ad n c,<-e];rfl
   exact Z k e'.symm
  have:k=b':=by injection e1
  have:=o.size;omega
 refine⟨u.os.trans (i.os.trans o.os),u.tape.trans (i.tape.trans o.tape),u.output.trans (i.output.trans o.output),by have:=u.size;have:=i.size;have:=o.size;omega,λk y _=>?_⟩;have hs:=o.size;have a0:=i.size;rw[u.block k (by omega) (λe=>by have:=Z k e.symm;omega),i.block k (by omega) (by intro e;cases e)];exact o.block k y (by intro e;cases e)
theorem nR.nil(w:World):nR w w none 0 0 []:=⟨dJ _ _ _ _,(λk e=>by cases e),ax _ _⟩
def yh(d:Dp)(m:Dm)(I k:Nat)(L:List B.V):Prop:=
 (∀v,v∈L->D4 d m v)/\(∀t,1<=t->t<=I->(m.T t).out∈L/\∀i a,i<(m.T t).fr.length->a<d.rg (fj m t i).f->(fj m t i).R a∈L)/\(k≠0->(m.T (I+1)).out∈L/\∀i a,i+1<k->a<d.rg (fj m (I+1) i).f->(fj m (I+1) i).R a∈L)
theorem Tryz.Dn:(prog.info? 4).map (λi=>(i.zero,i.size,i.bytes))=some (some (.bool false),1,1):=by kernel_rfl
theorem Tryz.underlying231:prog.underlying 231=some (.slice 4):=by kernel_rfl
theorem yH{w:World}{g b e:Nat}(h:w.ownsRow e 4 1 (.slice (some ⟨g,0,none⟩) b b) b (madeCells #[.bool false] (b)).toList):Full w g 4 b b (λ_=>.bool false):=by
 rcases h.2 with⟨h,_⟩|⟨g',u,i,G,h2,W,h4,Z,H,J⟩
 .cases h
 cases G;refine⟨i,W,by simpa using H,λj Y=>?_⟩;have o:=congrArg (λl=>l[j]?) J;have y:(madeCells #[.bool false] (b)).toList[j]? = some (.bool false):=by
  simp only[madeCells,Array.getElem?_toList,Array.getElem?_map,Array.getElem?_range];rw[aj (by omega)];simp[Nat.mod_one]
 simp only[y,dh]at o;rw[aj (by omega)]at o;simpa using o
def pf(R:Nat->B.V)(nr:Nat):List B.V:=(List.range nr).map R
theorem n6(R:Nat->B.V)(nr:Nat):(pf R nr).length=nr:=by unfold pf;simp
theorem Cu{R:Nat->B.V}{nr j:Nat}{u:Value}(h:(fT (pf R nr))[j]? = some u):j<nr*2/\u=eC R j:=by
 have y:j<nr*2:=by
  have:=(bu.1 h).1;rw[jr,n6]at this;exact this
 refine⟨y,?_⟩;have hi:(pf R nr)[j / 2]? = some (R (j / 2)):=by
  unfold pf;rw[eo,fW (by omega)];rfl
 obtain⟨i,o⟩:=mJ _ _ _ hi;unfold eC;by_cases e:j % 2=0
 .rw[aj e];rw[show j / 2*2=j by omega,h]at i;exact g8 i
 rw[aa e];rw[show j / 2*2+1=j by omega,h]at o;exact g8 o
theorem xk(l:List B.V):∀u∈fT l,u.oneCell'=true:=by
 intro u e;unfold fT at e;obtain⟨v,_,i⟩:=List.mem_flatMap.1 e;simp at i;rcases i with rfl|rfl<;>rfl
theorem yh.zero(d:Dp)(m:Dm):yh d m 0 0 []:=⟨(λv e=>by cases e),(λt o i=>by omega),λh=>ch rfl h⟩
theorem yh.one{I:Nat}{L:List B.V}(h:yh d m I 0 L)(hI:I<m.nt):yh d m I 1 (L++[(m.T (I+1)).out]):=by
 refine⟨λv e=>?_,λt u o=>?_,λ_=>⟨by simp,λi a hi _=>by omega⟩⟩
 .rcases di.1 e with e|e
  .exact h.1 v e
  rw[dL.1 e];exact ag ⟨I+1,⟨by omega,by omega⟩,rfl⟩
 obtain⟨G,H⟩:=h.2.1 t u o;exact⟨ee _ G,λi a hi y=>ee _ (H i a hi y)⟩
theorem yh.more{I k:Nat}{L:List B.V}(h:yh d m I (k+1) L)(hI:I<m.nt)(y:k<(m.T (I+1)).fr.length):yh d m I (k+2) (L++pf (fj m (I+1) k).R (d.rg (fj m (I+1) k).f)):=by
 obtain⟨H,G⟩:=h.2.2 (by omega);refine⟨λv o=>?_,λt W J=>?_,λ_=>⟨ee _ H,λi a hi u=>?_⟩⟩
 .rcases di.1 o with o|o
  .exact h.1 v o
  unfold pf at o;obtain⟨a,u,rfl⟩:=ek.1 o;exact ab ⟨I+1,k,a,⟨by omega,by omega⟩,y,eJ.1 u,rfl⟩
 .obtain⟨Y,Z⟩:=h.2.1 t W J;exact⟨ee _ Y,λi a hi u=>ee _ (Z i a hi u)⟩
 by_cases e:i=k
 .subst e;refine List.mem_append_right _ ?_;unfold pf;exact ek.2 ⟨a,eJ.2 u,rfl⟩
 exact ee _ (G i a (by omega) u)
theorem yh.next{I:Nat}{L:List B.V}(h:yh d m I ((m.T (I+1)).fr.length+1) L):yh d m (I+1) 0 L:=by
 obtain⟨y,o⟩:=h.2.2 (by omega);refine⟨h.1,λt G H=>?_,λe=>ch rfl e⟩;by_cases e:t=I+1
 .subst e;exact⟨y,λi a hi u=>o i a (by omega) u⟩
 exact h.2.1 t G (by omega)
structure Scan(d:Dp) (m:Dm) (I:Nat) (S:List Nat) (L:List B.V):Prop where
 nd:S.Nodup
 s:∀c,c∈S->lT d m c
 l:∀v,v∈L->v.1≠0->lT d m v.1
 r:∀v,D4 d m v->v∈L
 i:∀j v,j<I->L[j]? = some v->v.1≠0->v.1∈S
 m:∀c,c∈S->∀v,v∈m.M c->v∈L
theorem yh.scan{L:List B.V}(h:yh d m m.nt 0 L):Scan d m 0 [] L:=by
 refine⟨List.nodup_nil,(λc o=>by cases o),λv e y=>.root (h.1 v e) y,λv e=>?_,(λj v G=>by omega),(λc o=>by cases o)⟩;rcases e with⟨t,ht,rfl⟩|⟨t,i,a,ht,hi,u,rfl⟩
 .exact(h.2.1 t ht.1 ht.2).1
 exact(h.2.1 t ht.1 ht.2).2 i a hi u
theorem Scan.done{S:List Nat}{L:List B.V}(h:Scan d m L.length S L):kg d m S.length:=by
 refine⟨S,h.nd,λc=>⟨h.s c,λH=>?_⟩,rfl⟩;have u:∀v,v∈L->v.1≠0->v.1∈S:=λv o y=>by
  obtain⟨j,G,e⟩:=List.getElem_of_mem o;exact h.i j v G (by rw[bn G,e]) y
 induction H with
 | root o y=>exact u _ (h.r _ o) y
 | slot H o y J=>exact u _ (h.m _ J _ o) y
theorem Scan.skip{I:Nat}{S:List Nat}{L:List B.V}{v:B.V}(h:Scan d m I S L)(G:L[I]? = some v)(H:v.1=0\/v.1∈S):Scan d m (I+1) S L:=by
 refine⟨h.nd,h.s,h.l,h.r,λj u J o y=>?_,h.m⟩;by_cases e:j=I
 .subst e;rw[G]at o;injection o with o;subst o;exact H.resolve_left y
 exact h.i j u (by omega) o y
theorem Scan.take{I:Nat}{S:List Nat}{L:List B.V}{v:B.V}(h:Scan d m I S L)(H:L[I]? = some v)(Y:v.1≠0)(W:v.1∉S):Scan d m (I+1) (v.1 :: S) (L++m.M v.1):=by
 have J:=h.l v (ed H) Y;have hI:=(bu.1 H).1;refine⟨List.nodup_cons.2 ⟨W,h.nd⟩,λc G=>?_,λu o y=>?_,λu o=>ee _ (h.r u o),λj u Z o y=>?_,λc G u o=>?_⟩
 .rcases List.mem_cons.1 G with rfl|G
  .exact J
  exact h.s c G
 .rcases di.1 o with o|o
  .exact h.l u o y
  exact .slot J o y
 .rw[du (by omega)]at o;by_cases e:j=I
  .subst e;rw[H]at o;injection o with o;subst o;exact List.mem_cons_self
  exact List.mem_cons_of_mem _ (h.i j u (by omega) o y)
 rcases List.mem_cons.1 G with rfl|G
 .exact List.mem_append_right _ o
 exact ee _ (h.m c G u o)
theorem Scan.len{I:Nat}{S:List Nat}{L:List B.V}(h:Scan d m I S L)(i:∀c,lT d m c->1<=c/\c<=m.nc):S.length<=m.nc:=gn m.nc S h.nd (λc e=>i c (h.s c e))
def pe(S:List Nat):Nat->Value:=λj=>.bool (decide (j∈S))
theorem yx(S:List Nat)(c j:Nat):ep (pe S) c (.bool true) j=pe (c :: S) j:=by
 unfold ep pe;by_cases e:j=c
 .rw[aj e,e];simp
 rw[aa e];have:decide (j∈c :: S)=decide (j∈S):=by
  apply decide_eq_decide.2
  rw[List.mem_cons];exact⟨λh=>h.resolve_left e,ab⟩
 rw[this]
theorem oI{P:Program}{ops:Array Oper}{rest:List Oper}{o:Oper}{a:Act}{w:World}{Q:Exit->Act->World->Prop}(H:o.guard=none)(s x:Operand)(t:TypeId)(G:o.op=Op.call { callee:=Callee.builtin Builtin.append,args:=#[s,x],argTypes:=#[t,t] })(e:TypeId)(i:TypeInfo)(W:P.underlying t=some (.slice e))(Z:P.info? e=some i)(u ad:Option Addr)(n cap c:Nat)(Y:a.eval s=.slice u n cap)(hx:a.eval x=.slice ad 0 c)(J:n<=cap)(h:wpList P ops Q rest (a.put o.dst (.slice u n cap)) w):wpList P ops Q (o :: rest) a w:=
 wpList_plain H λ_ hK=>by
  unfold Oper.wp;simp[execOp,G,resolve,invoke,builtin,Y,hx,mV (P:=P) w t o.type e i W Z u ad n cap c J,Result.andThen];exact hK _ _ h
structure BK(d:Dp) (m:Dm):Prop where
 nt:m.nt≠0
 n1:m.nt<1000000000
 n2:m.nc<1000000000
 f:∀t,mF m t->(m.T t).fr.length<=20/\∀i,i<(m.T t).fr.length->1<=d.rg (fj m t i).f/\d.rg (fj m t i).f<=8
 c:∀c,lT d m c->1<=c/\c<=m.nc/\(m.M c).length<=8
theorem nG(h:dQ d m g w)(hC:BK d m):Calls prog 79 #[P0 g.mb] w λe w'=>∃N:Nat,e=.returned (.int .i64 N)/\kg d m N/\w.grownBy w' none:=by
 obtain⟨i0,hi,bJ,bD,bU⟩:=info_parts Tryz.Dn;obtain⟨j0,Y,aJ,aI,aF⟩:=info_parts Tryz.rH;obtain⟨hn,n1,n2,_,_⟩:=id hC;have c9:w.cell? ⟨g.mb,12,none⟩=some (.slice (g.ro 3 0).1 m.nc (g.ro 3 0).2):=(h.mc 12 (by omega) rfl).1;have lm:=h.M.lt;have q0:IntKind.i64.wrap ((m.nc:Int)+1)=(m.nc:Int)+1:=by rw[bl,bd _ (by omega)]
 have HR:=az h;have HC:=az hC;clear h hC;go_in;go_wp2_with (at_make;go_loud (refine wpList_make_full _ rfl _ _ 231 rfl 0 4 i0 _ 1 Tryz.underlying231 hi bJ bD _ _ _ _ (m.nc+1) rfl rfl rfl rfl (by rw[bU];omega) (by unfold maxLen;omega) (dc _) ?_))
 intro w1 aA aG;have aU:=az (yH aA);have aK:=az aG;have bM:w.heap.size<w1.heap.size:=aU.lt;clear aA aG c9;go_wp2_with fail
 go_loopw [4,5,6] (λl i k wr=>∃(I n c:Nat) (ad:Option Addr) (L:List B.V),l=.slice ad n c/\i=.int .i64 I/\I<=m.nt/\n=L.length/\n<=I*161/\Hid (nR w1 wr ad n c L)/\Hid (yh d m I 0 L)) (λ_ i _ _=>m.nt-(intOf i).toNat)
 case atStart=>exact⟨0,0,0,none,[],rfl,rfl,by omega,rfl,by omega,nR.nil _,yh.zero d m⟩
 case round=>
  obtain⟨I,n,c,ad,L,rfl,rfl,hI,bX,cS,rL,rU⟩:=hrel;subst bX;have KG:=az (an aK rL.2.2);have G:=az (HR.kept KG);obtain⟨tb,hb,hl,hm,hF⟩:=G.T hn;have c6:wr.cell? ⟨g.mb,6,none⟩=some (.slice (some ⟨tb,0,none⟩) m.nt (g.ro 1 0).2):=by rw[<-hb];exact(G.mc 6 (by omega) rfl).1
  by_cases b3:I<m.nt
  .have aB:(I:Int)<m.nt:=by omega
   have t6:wr.cell? ⟨tb,I*8+6,none⟩=some (.int .i64 ((m.T (I+1)).out.1:Int)):=(hF.cell (I*8+6) (by omega)).trans (congrArg some (pc m g (t:=I+1) (k:=6) (by omega) (by omega) (by omega)));have t7:wr.cell? ⟨tb,I*8+7,none⟩=some (.int .i64 (m.T (I+1)).out.2):=(hF.cell (I*8+7) (by omega)).trans (congrArg some (pc m g (t:=I+1) (k:=7) (by omega) (by omega) (by omega)));have J:=az rL.1;have aX:=λk hk=>(dA J k hk).2.1;have aO:=az aX;clear aX hF hb hl hm;go_wp2_with (at_builtin;refine gK rfl (.tmp 26) (.tmp 35) 161 rfl 115 j0 _ 2 16 Tryz.underlying161 Y aJ aI aF rfl (by decide) _ _ _ _ rfl (dD J (λk h=>ak _ _ _ (aO k h))) ⟨wr.heap.size,0,none⟩ 1 1 [.int .i64 ((m.T (I+1)).out.1:Int),.int .i64 (m.T (I+1)).out.2] rfl rfl ?c1 ?c2 ?c3 ?c4 ?c5 ?_)
   try case c1=>intro j u Y;match j,Y with|0,Y=>(simp at Y;subst Y;simp[Addr.add,go_sem])|1,Y=>(simp at Y;subst Y;simp[Addr.add,go_sem])
   try case c2=>simp[Value.oneCell']
   try case c3=>unfold maxLen;omega
   try case c4=>omega
   try case c5=>omega
   intro v' w6 ho W Z;obtain⟨b,c',rfl⟩:=dM ho (by omega);have b0:Hid (nR w1 w6 (some ⟨b,0,none⟩) (L.length+1) c' (L++[(m.T (I+1)).out])):=nR.app (R:=[(m.T (I+1)).out]) rL (ah _ _ none) ho W (Nat.le_succ _) Z;have bO:=az (rU.one b3);clear ho W Z J aO rL rU t6 t7 c6 G KG;have aE:(L++[(m.T (I+1)).out]).length=L.length+1:=by rw[bo];rfl
   rw[<-aE]at b0;rw[<-aE];have hn1:(L++[(m.T (I+1)).out]).length<=I*161+1:=by omega
   generalize L++[(m.T (I+1)).out]=L1 at *;have HD:Hid (mF m (I+1)):=⟨by omega,by omega⟩;obtain⟨cN,b7⟩:=HC.f (I+1) HD;have bZ:=az b7;clear b7 aE;go_wp2_with fail
   go_loopw [4,6] (λl k wr=>∃(n c H:Nat) (ad:Option Addr) (L:List B.V),l=.slice ad n c/\k=.int .i64 H/\H<=(m.T (I+1)).fr.length/\n=L.length/\n<=I*161+1+H*8/\Hid (nR w1 wr ad n c L)/\Hid (yh d m I (H+1) L)) (λ_ k _=>(m.T (I+1)).fr.length-(intOf k).toNat)
   case atStart=>exact⟨L1.length,c',0,_,L1,rfl,rfl,by omega,rfl,by omega,b0,bO⟩
   case round=>
    obtain⟨cT,bI,H,b9,y,rfl,rfl,cX,aM,cI,o,a8⟩:=hrel;subst aM;have aR:=az (an aK o.2.2);have G:=az (HR.kept aR);obtain⟨aH,bB,_,_,aV⟩:=G.T hn;have d6:wr.cell? ⟨g.mb,6,none⟩=some (.slice (some ⟨aH,0,none⟩) m.nt (g.ro 1 0).2):=by rw[<-bB];exact(G.mc 6 (by omega) rfl).1
    have d0:wr.cell? ⟨aH,I*8,none⟩=some (.slice (g.ro 5 (I+1)).1 (m.T (I+1)).fr.length (g.ro 5 (I+1)).2):=(aV.cell (I*8) (by omega)).trans (congrArg some (pc m g (t:=I+1) (k:=0) (by omega) (by omega) (by omega)));clear aV bB;by_cases aC:H<(m.T (I+1)).fr.length
    .have cU:(H:Int)<((m.T (I+1)).fr.length:Int):=by omega
     obtain⟨fb,b2,_,_,aD⟩:=G.F HD (by omega);have f1:wr.cell? ⟨fb,H*4+1,none⟩=some (.slice (some ⟨g.rb (I+1) H,0,none⟩) (d.rg (fj m (I+1) H).f) (d.rg (fj m (I+1) H).f)):=(aD.cell (H*4+1) (by omega)).trans (congrArg some (tA d m g (I+1) (by omega)));have cY:=aD.lt;have aP:=az (G.R HD aC);rw[b2]at d0;have J:=az o.1;obtain⟨r1,r8⟩:=bZ H aC;have bR:=az (a8.more b3 aC);clear aD b2;generalize g.rb (I+1) H=bP at *;generalize bY:d.rg (fj m (I+1) H).f=nr at *;generalize bG:(fj m (I+1) H).R=RR at *;generalize (m.T (I+1)).fr.length=fl at *;generalize (g.ro 5 (I+1)).2=fc at *;clear bY bG;go_wp2_with (at_builtin;refine gK rfl (.tmp 50) (.tmp 62) 161 rfl 115 j0 _ 2 16 Tryz.underlying161 Y aJ aI aF rfl (by decide) _ _ _ _ rfl J ⟨bP,0,none⟩ nr nr (fT (pf RR nr)) rfl (by rw[jr,n6]) ?c1 ?c2 ?c3 ?c4 ?c5 ?_)
     try case c1=>
      intro j u Y;obtain⟨a1,a2⟩:=Cu Y;rw[a2];have:=aP.cell j a1
      cases j with
      | zero=>simpa[Addr.add] using this
      | succ j=>simpa[Addr.add] using this
     try case c2=>exact xk _
     try case c3=>unfold maxLen;omega
     try case c4=>omega
     try case c5=>omega
     intro v' w6 ho W Z;obtain⟨b6,a7,rfl⟩:=dM ho (by omega);have a4:=az (nR.app (R:=pf RR nr) o (ax _ _) (by rw[n6];exact ho) W (bj _) (by rw[n6];exact Z));rw[n6]at a4;have a3:(y++pf RR nr).length=y.length+nr:=by rw[bo,n6]
     clear ho W Z J aP o a8 d6 d0 f1 G aR;rw[<-a3]at a4;rw[<-a3];generalize y++pf RR nr=L3 at *;have bH:L3.length<=I*161+1+(H+1)*8:=by omega
     clear a3;go_wp2_with fail
     go_roundw
     case rel=>exact⟨L3.length,a7,H+1,_,L3,rfl,by go_num,by omega,rfl,bH,a4,bR⟩
     case measure=>simp[intOf];omega
    obtain rfl:H=(m.T (I+1)).fr.length:=by omega
    have bV:=az a8.next;have cG:=az o;have bK:y.length<=(I+1)*161:=by omega
    generalize (g.ro 5 (I+1)).1=fa at *;generalize (g.ro 5 (I+1)).2=fc at *;clear o a8;go_wp2_with fail
    go_roundw
    case rel=>exact⟨I+1,y.length,bI,b9,y,rfl,by go_num,by omega,rfl,bK,cG,bV⟩
    case measure=>simp[intOf];omega
  obtain rfl:I=m.nt:=by omega
  have cH:=az rU.scan;have bQ:Hid (nR w wr ad L.length c L):=⟨rL.1,λk hk=>by have:=rL.2.1 k hk;omega,KG⟩;have aW:Hid (Full wr w.heap.size 4 (m.nc+1) (m.nc+1) (pe [])):=(aU.block (rL.2.2.block w.heap.size bM (by intro e;cases e))).congr (λj _=>by unfold pe;simp);clear rL rU hF hb hl hm G KG;go_wp2_with fail
  go_loopg [4,7,8,9] (m.nc*9+L.length) (λq l nn i cc wr=>∃(I n N c:Nat) (ad:Option Addr) (S:List Nat) (L:List B.V),l=.slice ad n c/\nn=.int .i64 N/\i=.int .i64 I/\n=L.length/\N=S.length/\I<=L.length/\L.length<=m.nt*161+N*8/\q=(m.nc-N)*9+(L.length-I)/\Hid (Scan d m I S L)/\Hid (nR w wr ad n c L)/\Hid (Full wr w.heap.size 4 (m.nc+1) (m.nc+1) (pe S)))
  case atStart=>exact⟨0,L.length,0,c,ad,[],L,rfl,rfl,rfl,rfl,rfl,by omega,by omega,by simp,cH,bQ,aW⟩
  case round=>
   obtain⟨I,n,N,c2,b9,S,y,rfl,rfl,rfl,cB,hN,cR,b1,hq,rS,o,rF⟩:=hrel;subst cB;subst hN;have d2:=rS.len (λc hc=>⟨(HC.c c hc).1,(HC.c c hc).2.1⟩);by_cases aB:I<y.length
   .obtain⟨v,hv⟩:∃v,y[I]? = some v:=⟨_,bn aB⟩;obtain⟨b,rfl,lb,v0,v1⟩:=o.cell rfl hv;have cM:(I:Int)<y.length:=by omega
    by_cases h0:v.1=0
    .rw[h0]at v0;have KS:=az (rS.skip hv (ag h0));clear rS;go_wp2_with fail
     go_roundg ((m.nc-S.length)*9+(y.length-(I+1)))
     case rel=>exact⟨I+1,y.length,S.length,c2,_,S,y,rfl,rfl,by go_num,rfl,rfl,by omega,b1,rfl,KS,o,rF⟩
     case measure=>omega
    have hr:lT d m v.1:=rS.l v (ed hv) h0;obtain⟨r1,r2,r3⟩:=HC.c v.1 hr
    have p2:(v.1:Int)<m.nc+1:=by omega
    have p3:(0:Int)<=v.1:=by omega
    obtain⟨s0,z0⟩:=rF.cells v.1 (by omega);by_cases hs:v.1∈S
    .have s1:wr.cell? ⟨w.heap.size,v.1,none⟩=some (.bool true):=by rw[s0];unfold pe;rw[fh hs]
     have KS:=az (rS.skip hv (ab hs));clear rS s0 hs;go_wp2_with fail
     go_roundg ((m.nc-S.length)*9+(y.length-(I+1)))
     case rel=>exact⟨I+1,y.length,S.length,c2,_,S,y,rfl,rfl,by go_num,rfl,rfl,by omega,b1,rfl,KS,o,rF⟩
     case measure=>omega
    have s1:wr.cell? ⟨w.heap.size,v.1,none⟩=some (.bool false):=by rw[s0];unfold pe;rw[fi hs]
    have KS:=az (rS.take hv h0 hs);have aL:=KS.len (λc hc=>⟨(HC.c c hc).1,(HC.c c hc).2.1⟩);rw[List.length_cons]at aL;have G:=az (HR.kept o.2.2);obtain⟨cb,k1,k2,k3,k4,k5⟩:=G.cc r1 r2;have aZ:=az (G.S r1 r2);have p4:IntKind.i64.wrap ((v.1:Int)-1)=((v.1-1:Nat):Int):=by rw[bl,bd _ (by omega)];omega
    have p5:v.1-1<m.nc:=by omega
    have nb:b≠w.heap.size:=by
     have:=o.1;exact eL this rF (by decide) b rfl
    have d1:w.heap.size<wr.heap.size:=rF.lt;have bL:cb≠w.heap.size:=λe=>by
     have cL:cb<w.heap.size:=by
      obtain⟨cQ,a6,cW,_⟩:=HR.cc r1 r2;rw[k1]at a6;injection a6 with a6;injection a6 with a6 _;omega
     omega
    have c7:g.mb≠w.heap.size:=by omega
    have a9:=az ((rF.ep v.1 (.bool true)).congr (λj _=>yx S v.1 j));have a5:Hid (nR w (wr.setCell ⟨w.heap.size,v.1,none⟩ (.bool true)) (some ⟨b,0,none⟩) y.length c2 y):=⟨dD o.1 (λk hk=>af _ _ _ _ (by
     have:k=b:=by simpa[Value.ownBlock] using hk.symm
     rw[this];exact nb)),o.2.1,bp o.2.2 (ab (bj _)) _⟩
    have bA:Hid (∀j,j<(m.M v.1).length*2->(wr.setCell ⟨w.heap.size,v.1,none⟩ (.bool true)).cell? ⟨g.sb v.1,j,none⟩=some (eC (kT (m.M v.1)) j)):=λj Y=>(aw (a:=⟨g.sb v.1,j,none⟩) (af _ _ _ _ (by
     have:=(HR.S r1 r2).lt;show g.sb v.1≠w.heap.size;omega))).trans (aZ.cell j Y)
    have bW:(wr.setCell ⟨w.heap.size,v.1,none⟩ (.bool true)).cell? ⟨g.mb,12,none⟩=some (.slice (some ⟨cb,0,none⟩) m.nc (g.ro 3 0).2):=(aw (a:=⟨g.mb,12,none⟩) (af _ _ _ _ c7)).trans k3;have c8:(wr.setCell ⟨w.heap.size,v.1,none⟩ (.bool true)).cell? ⟨cb,(v.1-1)*2,none⟩=some (.slice (some ⟨g.sb v.1,0,none⟩) (m.M v.1).length (m.M v.1).length):=(aw (a:=⟨cb,(v.1-1)*2,none⟩) (af _ _ _ _ bL)).trans k4;clear rS s0 hs G aZ k1 k3 k4 k5 rF o;generalize aN:(m.M v.1).length=sl at *;generalize cD:v.1-1=zv at *;have p6:(zv:Int)<m.nc:=by omega
    have p7:(0:Int)<=zv:=by omega
    have a0:=az aN;clear aN cD;by_cases cF:sl=0
    .subst cF;have b5:=cf.1 a0;have bN:Hid (Scan d m (I+1) (v.1 :: S) y):=by have:=KS.out;rw[b5,eB]at this;exact this
     have aQ:y.length<=c2:=by
      rcases a5.1.2 with⟨h2,_⟩|⟨g',cO,cZ,k1,_,k3,k4,_⟩
      .cases h2
      cases k1;exact k4
     clear b5 KS;go_wp2_with (at_builtin;refine oI rfl (.tmp 89) (.tmp 98) 161 rfl 115 j0 Tryz.underlying161 Y (some ⟨b,0,none⟩) (some ⟨g.sb v.1,0,none⟩) y.length c2 0 rfl rfl aQ ?_)
     go_roundg ((m.nc-(S.length+1))*9+(y.length-(I+1)))
     case rel=>exact⟨I+1,y.length,S.length+1,c2,_,v.1 :: S,y,rfl,by go_num,by go_num,rfl,rfl,by omega,by omega,rfl,bN,a5,a9⟩
     case measure=>omega
    have J:=az a5.1;have aY:∀j u,(fT (m.M v.1))[j]? = some u->j<sl*2/\u=eC (kT (m.M v.1)) j:=λj u hu=>by
     have e1:m.M v.1=pf (kT (m.M v.1)) sl:=by
      unfold pf kT;apply List.ext_getElem?
      intro i;rw[eo];by_cases hi:i<sl
      .rw[fW hi];have aS:i<(m.M v.1).length:=by rw[a0.out];exact hi
       rw[bn aS];show _=some ((m.M v.1).getD i (0,0));rw[ar,bn aS];rfl
      rw[cw (by rw[a0.out];omega),cw (by simp;omega)];rfl
     rw[e1]at hu;exact Cu hu
    have b4:=az aY;have b8:(fT (m.M v.1)).length=sl*2:=by rw[jr,a0.out]
    have aT:=az b8;clear aY b8;go_wp2_with (at_builtin;refine gK rfl (.tmp 89) (.tmp 98) 161 rfl 115 j0 _ 2 16 Tryz.underlying161 Y aJ aI aF rfl (by decide) _ _ _ _ rfl J ⟨g.sb v.1,0,none⟩ sl sl (fT (m.M v.1)) rfl aT ?c1 ?c2 ?c3 ?c4 ?c5 ?_)
    try case c1=>
     intro j u Y;obtain⟨a1,a2⟩:=b4 j u Y;rw[a2];have:=bA j a1
     cases j with
     | zero=>simpa[Addr.add] using this
     | succ j=>simpa[Addr.add] using this
    try case c2=>exact xk _
    try case c3=>unfold maxLen;omega
    try case c4=>omega
    try case c5=>omega
    intro v' w6 ho W Z;obtain⟨b6,a7,rfl⟩:=dM ho (by omega);have a4:=az (nR.app (R:=m.M v.1) a5 (ax _ _) (by rw[a0.out];exact ho) W (z:=wr.heap.size) (by simp[World.setCell]) (by rw[a0.out];exact Z));rw[a0.out]at a4;have bE:Hid (Full w6 w.heap.size 4 (m.nc+1) (m.nc+1) (pe (v.1 :: S))):=a9.block (W.block w.heap.size a9.lt (λe=>nb (by injection e with e;exact e.symm)));have a3:(y++m.M v.1).length=y.length+sl:=by rw[bo,a0.out]
    clear ho W Z J a5 a9 bA bW c8 b4 aT;rw[<-a3]at a4;rw[<-a3];have bF:=az KS;have bC:I+1<=(y++m.M v.1).length:=by omega
    have cA:(y++m.M v.1).length<=m.nt*161+(S.length+1)*8:=by omega
    have cV:(m.nc-(S.length+1))*9+((y++m.M v.1).length-(I+1))<(m.nc-S.length)*9+(y.length-I):=by omega
    clear a3 KS;generalize y++m.M v.1=L7 at *;go_wp2_with fail
    go_roundg ((m.nc-(S.length+1))*9+(L7.length-(I+1)))
    case rel=>exact⟨I+1,L7.length,S.length+1,a7,_,v.1 :: S,L7,rfl,by go_num,by go_num,rfl,rfl,bC,cA,rfl,bF,a4,bE⟩
    case measure=>omega
   obtain rfl:I=y.length:=by omega
   have KD:=az rS.done;have bT:=az o.2.2;clear rS;go_wp2_with fail
   go_ret;exact⟨S.length,rfl,KD,bT⟩
def Dc.full(c:Dc):Dc:={ c with fu:=true }
theorem FE{rb:Nat}{x16 x19 x20:Int}(Y:IntKind.i64.wrap (x16+1)=x16+1)(W:IntKind.i64.wrap (x19+1)=x19+1)(J:IntKind.i64.wrap (x20+1)=x20+1)(i:w.cell? ⟨rb,16,none⟩=some (.int .i64 x16)/\w.frozen? ⟨rb,16,none⟩=false)(o:w.cell? ⟨rb,19,none⟩=some (.int .i64 x19)/\w.frozen? ⟨rb,19,none⟩=false)(u:w.cell? ⟨rb,20,none⟩=some (.int .i64 x20)/\w.frozen? ⟨rb,20,none⟩=false): Calls prog 226 #[Pt rb 16] w λe w'=>e=.returned (.tuple #[])/\w'=((w.setCell ⟨rb,16,none⟩ (.int .i64 (x16+1))).setCell ⟨rb,19,none⟩ (.int .i64 (x19+1))).setCell ⟨rb,20,none⟩ (.int .i64 (x20+1)):=by
 obtain⟨i,y⟩:=i;obtain⟨o,G⟩:=o;obtain⟨u,H⟩:=u;go_in;go_wp2_with fail
 go_end0;exact⟨rfl,rfl⟩
theorem Gg(h:dQ d m g w)(H:m.G.all<1000000000)(Y:m.G.sure<1000000000)(h3:m.G.lO<1000000000):Calls prog 226 #[Pt g.mb 16] w λe w'=>e=.returned (.tuple #[])/\Tr d m g w (m.gT m.G.born) g w':=by
 have wr:∀x:Nat,x<1000000000->IntKind.i64.wrap ((x:Int)+1)=(x:Int)+1:=λx hx=>by rw[bl,bd _ (by omega)]
 refine(FE (x16:=(m.G.all:Int)) (x19:=(m.G.sure:Int)) (x20:=(m.G.lO:Int)) (wr _ H) (wr _ Y) (wr _ h3) (h.mc 16 (by omega) rfl) (h.mc 19 (by omega) rfl) (h.mc 20 (by omega) rfl)).mono ?_;rintro e w' ⟨rfl,rfl⟩;have y:∀(m1:Dm) (w1:World) (j:Nat) (v:Value) (G:Dc),dQ d m1 g w1->(∀i,i<24->mE d (m1.gT G) g i=if i=j then v else mE d m1 g i)->Tr d m1 g w1 (m1.gT G) g (w1.setCell ⟨g.mb,j,none⟩ v):=λm1 w1 j v G Z o=>Z.wQ j v ⟨rfl,rfl,rfl,rfl,rfl,rfl,rfl,rfl⟩ o;have ev:∀(m1:Dm) (G:Dc) (j:Nat) (v:Value),16<=j->j<24->(∀i,16<=i->i<24->mE d (m1.gT G) g i=if i=j then v else mE d m1 g i)->∀i,i<24->mE d (m1.gT G) g i=if i=j then v else mE d m1 g i:=λm1 G j v H Y o i hi=>by
  by_cases e:16<=i
  .exact o i e hi
  rw[aa (by omega)];have hc:i=0\/i=1\/i=2\/i=3\/i=4\/i=5\/i=6\/i=7\/i=8\/i=9\/i=10\/i=11\/i=12\/i=13\/i=14\/i=15:=by omega
  rcases hc with rfl|rfl|rfl|rfl|rfl|rfl|rfl|rfl|rfl|rfl|rfl|rfl|rfl|rfl|rfl|rfl<;>rfl
 have u:∀i:Nat,16<=i->i<24->i=16\/i=17\/i=18\/i=19\/i=20\/i=21\/i=22\/i=23:=λi a b=>by omega
 have W:=y m w 16 (iK ((m.G.all:Int)+1)) { m.G with all:=m.G.all+1 } h (ev _ _ _ _ (by omega) (by omega) (λi a b=>by rcases u i a b with rfl|rfl|rfl|rfl|rfl|rfl|rfl|rfl<;>rfl));have J:=y _ _ 19 (iK ((m.G.sure:Int)+1)) { m.G with all:=m.G.all+1,sure:=m.G.sure+1 } W.r (ev _ _ _ _ (by omega) (by omega) (λi a b=>by rcases u i a b with rfl|rfl|rfl|rfl|rfl|rfl|rfl|rfl<;>rfl));exact⟨rfl,(W.trans J).trans (y _ _ 20 (iK ((m.G.lO:Int)+1)) m.G.born J.r (ev _ _ _ _ (by omega) (by omega) (λi a b=>by rcases u i a b with rfl|rfl|rfl|rfl|rfl|rfl|rfl|rfl<;>rfl)))⟩
def fy(d:Dp)(m:Dm):Dc:=if d.n<=m.G.all then m.G.full else m.G
theorem dQ.full(h:dQ d m g w):Tr d m g w (m.gT m.G.full) g (w.setCell ⟨g.mb,23,none⟩ (.bool true)):=h.wQ 23 _ ⟨rfl,rfl,rfl,rfl,rfl,rfl,rfl,rfl⟩ (λi hi=>by
 have e:i=0\/i=1\/i=2\/i=3\/i=4\/i=5\/i=6\/i=7\/i=8\/i=9\/i=10\/i=11\/i=12\/i=13\/i=14\/i=15\/i=16\/i=17\/i=18\/i=19\/i=20\/i=21\/i=22\/i=23:=by omega
 rcases e with rfl|rfl|rfl|rfl|rfl|rfl|rfl|rfl|rfl|rfl|rfl|rfl|rfl|rfl|rfl|rfl|rfl|rfl|rfl|rfl|rfl|rfl|rfl|rfl<;>rfl)
theorem lT.gT(G:Dc){c:Nat}:lT d (m.gT G) c↔lT d m c:=by
 constructor
 .intro h;induction h with
  | root e i=>exact .root e i
  | slot _ e i o=>exact .slot o e i
 intro h;induction h with
 | root e i=>exact .root e i
 | slot _ e i o=>exact .slot o e i
theorem BK.gT(h:BK d m)(G:Dc):BK d (m.gT G):=⟨h.nt,h.n1,h.n2,h.f,λc e=>h.c c ((lT.gT G).1 e)⟩
theorem FU(h:dQ d m g w)(hC:BK d m):Calls prog 225 #[P0 g.mb] w λe w'=>∃(ok:Bool),e=.returned (.bool ok)/\Tr d m g w (m.gT (fy d m)) g w'/\(((fy d m).fu=false/\ok=decide (0<d.n))\/∃N:Nat,kg d m N/\ok=decide (N<d.n)):=by
 have a1:w.cell? ⟨g.mb,16,none⟩=some (.int .i64 (m.G.all:Int)):=(h.mc 16 (by omega) rfl).1;have c1:w.cell? ⟨g.mb,1,none⟩=some (.int .i64 (d.n:Int)):=(h.mc 1 (by omega) rfl).1;obtain⟨J,a0⟩:=h.mc 23 (by omega) (v:=.bool m.G.fu) rfl;have lm:=h.M.lt;have W:=az h;have HC:=az hC;by_cases h1:d.n<=m.G.all
 .have Z:(d.n:Int)<=(m.G.all:Int):=by omega
  have hG:fy d m=m.G.full:=by unfold fy;rw[aj h1]
  rw[hG];have Y:=az (λn=>Tr.ahead (db (ax w none) n) (W.out.kept (db (ax w none) n)).full);have y:=az (λn=>nG (Y.out n).r (HC.out.gT m.G.full));go_in;go_wp2_with fail
  go_quiet (fail)
  go_wp2_with fail
  refine(y.out nq).mono ?_;rintro e w5 ⟨N,rfl,H,u⟩;have o:=az ((Y.out nq).kept u);have d1:w5.cell? ⟨g.mb,1,none⟩=some (.int .i64 (d.n:Int)):=(o.out.r.mc 1 (by omega) rfl).1;have HN:Hid (kg d m N):=by
   obtain⟨l,l1,l2,l3⟩:=H;exact⟨l,l1,λc=>by rw[l2];exact lT.gT _,l3⟩
  go_wp2_with fail
  go_ret;exact⟨_,rfl,o.out,ab ⟨N,HN.out,by simp⟩⟩
 have Z:¬((d.n:Int)<=(m.G.all:Int)):=by omega
 have hG:fy d m=m.G:=by unfold fy;rw[aa h1]
 rw[hG];have i:m.gT m.G=m:=rfl;rw[i]
 cases hf:m.G.fu with
 | true=>
  rw[hf]at J;have y:=az (λn=>nG (W.out.kept (db (ax w none) n)) HC.out);go_in;go_wp2_with fail
  go_quiet (fail)
  go_wp2_with fail
  refine(y.out nq).mono ?_;rintro e w5 ⟨N,rfl,H,u⟩;have o:=az ((Tr.refl W.out).kept (an (db (ax w none) nq) u));have d1:w5.cell? ⟨g.mb,1,none⟩=some (.int .i64 (d.n:Int)):=(o.out.r.mc 1 (by omega) rfl).1;have HN:=az H;go_wp2_with fail
  go_ret;exact⟨_,rfl,o.out,ab ⟨N,HN.out,by simp⟩⟩
 | false=>
  rw[hf]at J;go_in;go_wp2_with fail
  go_quiet (fail)
  go_wp2_with fail
  go_ret;exact⟨_,rfl,(Tr.refl W.out).kept (db (ax w none) nq),ag ⟨by first|exact HF.out|trivial,by simp⟩⟩
end D
namespace D
open F
variable {p : dz} {d : Dp} {K : Nat} {s : Pl} {m m' : Dm} {g g' : Dg} {w w' : World} {ρ : Nat → Nat}
theorem dQ.I6{p:Dp}(h:dQ p m g w)(u:dy (λk=>k=g.mb) w w')(e:m'.nt=m.nt/\m'.T=m.T/\m'.q=m.q/\m'.jo=m.jo/\m'.nc=m.nc/\m'.M=m.M/\m'.ck=m.ck/\m'.ev=m.ev)(G:Full w' g.mb 112 24 24 (mE p m' g)):Tr p m g w m' g w':=by
 obtain⟨a1,a2,a3,a4,a5,Z,a7,a8⟩:=m;obtain⟨b1,Y,W,b4,J,b6,b7,b8⟩:=m';simp only at e;obtain⟨rfl,rfl,rfl,rfl,rfl,rfl,rfl,rfl⟩:=e;refine h.one 0 0 0 rfl (λx y z=>rfl) u (λx y z i hn=>?_) G (λk o=>ag o);exact ok_eq (e0:=λe=>ch e (λe=>hn ⟨e,jC i (ag (by omega))⟩)) (hx:=kG i)
def Dc.FG(c:Dc)(n N:Nat):Dc:=if c.bg=true then c else { c with bg:=true,mW:=wrap64 ((N:Int)+(n:Int)),sure:=N }
def Dc.F3(c:Dc)(wk:Nat):Int:=if c.mW<(wk:Int) then c.mW else(wk:Int)
def Dc.Ef(c:Dc)(wk:Nat):Dc:={ c with mW:=wrap64 (c.mW-c.F3 wk),fI:=wrap64 (c.fI+c.F3 wk) }
def Dc.fin(c:Dc):Dc:=if c.mW=0 then { c with bg:=false,wi:=wrap64 (c.wi+1),lO:=c.sure } else c
def Dc.rf(c:Dc)(n wk N:Nat):Dc:=if c.fu=true then c else((c.FG n N).Ef wk).fin
theorem eV{b:Nat}{S:Nat->Prop}(hS:S b){w0 w:World}(h:dy S w0 w)(o:Nat)(v:Value):dy S w0 (w.setCell ⟨b,o,none⟩ v):=bm h (ag hS) _
def mZ(d:Dp)(m:Dm)(g:Dg)(w w':World):Prop:=∃N:Nat,(m.G.fu=false->m.G.bg=false->kg d m N)/\Tr d m g w (m.gT (m.G.rf d.n d.wk N)) g w'
theorem mZ.mk'{G:Dc}{w2:World}{N:Nat}(h:dQ d m g w)(e:w.grownBy w2 none)(i:m.G.fu=false->m.G.bg=false->kg d m N)(hG:m.G.rf d.n d.wk N=G)(u:dy (λk=>k=g.mb) w2 w')(o:Full w' g.mb 112 24 24 (mE d (m.gT G) g)):mZ d m g w w':=by
 refine⟨N,i,?_⟩;rw[hG];exact(dQ.I6 (m':=m.gT G) (h.kept e) u ⟨rfl,rfl,rfl,rfl,rfl,rfl,rfl,rfl⟩ o).ahead e
theorem JQ(h:dQ d m g w)(y:BK d m)(i:m.G.fu=true):Calls prog 146 #[P0 g.mb] w λe w'=>e=.returned (.tuple #[])/\mZ d m g w w':=by
 obtain⟨o,a5⟩:=h.mc 23 (by omega) (v:=.bool m.G.fu) rfl;have le:=h.M.lt;have HR:=az h;have W:=az (nG h y);have q0:=bd 0 (by omega);rw[i]at o;have u:=az i;go_in;go_wp2_with fail
 refine da (results_none rfl _ _ _) rfl ?_;refine⟨rfl,0,λe=>(by rw[u.out]at e;cases e),?_⟩;have e:m.gT (m.G.rf d.n d.wk 0)=m:=by
  unfold Dc.rf;rw[aj u.out];rfl
 rw[e];exact Tr.refl HR
theorem JO(h:dQ d m g w)(hC:BK d m)(hf:m.G.fu=false)(hb:m.G.bg=true):Calls prog 146 #[P0 g.mb] w λe w'=>e=.returned (.tuple #[])/\mZ d m g w w':=by
 obtain⟨c3,_⟩:=h.mc 3 (by omega) (v:=.int .i64 d.wk) rfl;obtain⟨a1,a4⟩:=h.mc 17 (by omega) (v:=.bool m.G.bg) rfl;obtain⟨a2,a7⟩:=h.mc 18 (by omega) (v:=.int .i64 m.G.mW) rfl;obtain⟨aD,a8⟩:=h.mc 19 (by omega) (v:=.int .i64 m.G.sure) rfl;obtain⟨aE,a3⟩:=h.mc 20 (by omega) (v:=.int .i64 m.G.lO) rfl;obtain⟨aC,a6⟩:=h.mc 21 (by omega) (v:=.int .i64 m.G.fI) rfl;obtain⟨aB,aA⟩:=h.mc 22 (by omega) (v:=.int .i64 m.G.wi) rfl;obtain⟨a0,a5⟩:=h.mc 23 (by omega) (v:=.bool m.G.fu) rfl;have le:=h.M.lt;have Y:=az h;have a9:=az (nG h hC);rw[hf]at a0;have Z:=az hf;rw[hb]at a1;have u:=az hb;have HM:=az Y.M;generalize hl:m.G.mW=mW at *;generalize hu:m.G.fI=fI at *;generalize y:m.G.wi=wi at *;have o:=az (ay hl (ay hu y));by_cases J:mW<(d.wk:Int)
 .go_in;go_wp2_with fail
  go_end0;refine⟨rfl,mZ.mk' (N:=0) (G:={ m.G with mW:=0,fI:=wrap64 (fI+mW),bg:=false,wi:=wrap64 (wi+1),lO:=m.G.sure }) Y (ax _ _) (λ_ e=>by rw[u.out]at e;cases e) (by simp[Dc.rf,Dc.FG,Dc.Ef,Dc.F3,Dc.fin,Z.out,u.out,o.1,o.2.1,o.2.2,J,bd 0 (by omega)]) (eV (b:=g.mb) (S:=λk=>k=g.mb) rfl (eV (b:=g.mb) (S:=λk=>k=g.mb) rfl (eV (b:=g.mb) (S:=λk=>k=g.mb) rfl (eV (b:=g.mb) (S:=λk=>k=g.mb) rfl (eV (b:=g.mb) (S:=λk=>k=g.mb) rfl (dk _ _) 18 _) 21 _) 17 _) 22 _) 20 _) (((((((HM).ep 18 _).ep 21 _).ep 17 _).ep 22 _).ep 20 _).congr (λi hi=>?_))⟩;have H:i=0\/i=1\/i=2\/i=3\/i=4\/i=5\/i=6\/i=7\/i=8\/i=9\/i=10\/i=11\/i=12\/i=13\/i=14\/i=15\/i=16\/i=17\/i=18\/i=19\/i=20\/i=21\/i=22\/i=23:=by omega
  rcases H with rfl|rfl|rfl|rfl|rfl|rfl|rfl|rfl|rfl|rfl|rfl|rfl|rfl|rfl|rfl|rfl|rfl|rfl|rfl|rfl|rfl|rfl|rfl|rfl<;>rfl
 have W:=az J;by_cases hz:wrap64 (mW-(d.wk:Int))=0
 .go_in;go_wp2_with fail
  go_end0;refine⟨rfl,mZ.mk' (N:=0) (G:={ m.G with mW:=0,fI:=wrap64 (fI+(d.wk:Int)),bg:=false,wi:=wrap64 (wi+1),lO:=m.G.sure }) Y (ax _ _) (λ_ e=>by rw[u.out]at e;cases e) (by simp[Dc.rf,Dc.FG,Dc.Ef,Dc.F3,Dc.fin,Z.out,u.out,o.1,o.2.1,o.2.2,aa (by omega:¬mW<(d.wk:Int)),hz]) (eV (b:=g.mb) (S:=λk=>k=g.mb) rfl (eV (b:=g.mb) (S:=λk=>k=g.mb) rfl (eV (b:=g.mb) (S:=λk=>k=g.mb) rfl (eV (b:=g.mb) (S:=λk=>k=g.mb) rfl (eV (b:=g.mb) (S:=λk=>k=g.mb) rfl (dk _ _) 18 _) 21 _) 17 _) 22 _) 20 _) (((((((HM).ep 18 _).ep 21 _).ep 17 _).ep 22 _).ep 20 _).congr (λi hi=>?_))⟩;have H:i=0\/i=1\/i=2\/i=3\/i=4\/i=5\/i=6\/i=7\/i=8\/i=9\/i=10\/i=11\/i=12\/i=13\/i=14\/i=15\/i=16\/i=17\/i=18\/i=19\/i=20\/i=21\/i=22\/i=23:=by omega
  rcases H with rfl|rfl|rfl|rfl|rfl|rfl|rfl|rfl|rfl|rfl|rfl|rfl|rfl|rfl|rfl|rfl|rfl|rfl|rfl|rfl|rfl|rfl|rfl|rfl<;>rfl
 go_in;go_wp2_with fail
 go_end0;refine⟨rfl,mZ.mk' (N:=0) (G:={ m.G with mW:=wrap64 (mW-(d.wk:Int)),fI:=wrap64 (fI+(d.wk:Int)) }) Y (ax _ _) (λ_ e=>by rw[u.out]at e;cases e) (by simp[Dc.rf,Dc.FG,Dc.Ef,Dc.F3,Dc.fin,Z.out,u.out,o.1,o.2.1,o.2.2,aa (by omega:¬mW<(d.wk:Int)),hz]) (eV (b:=g.mb) (S:=λk=>k=g.mb) rfl (eV (b:=g.mb) (S:=λk=>k=g.mb) rfl (dk _ _) 18 _) 21 _) ((((HM).ep 18 _).ep 21 _).congr (λi hi=>?_))⟩;have H:i=0\/i=1\/i=2\/i=3\/i=4\/i=5\/i=6\/i=7\/i=8\/i=9\/i=10\/i=11\/i=12\/i=13\/i=14\/i=15\/i=16\/i=17\/i=18\/i=19\/i=20\/i=21\/i=22\/i=23:=by omega
 rcases H with rfl|rfl|rfl|rfl|rfl|rfl|rfl|rfl|rfl|rfl|rfl|rfl|rfl|rfl|rfl|rfl|rfl|rfl|rfl|rfl|rfl|rfl|rfl|rfl<;>rfl
theorem kg.le{N:Nat}(h:kg d m N)(i:BK d m):N<=m.nc:=by
 obtain⟨l,u,o,rfl⟩:=h;exact gn m.nc l u (λc e=>⟨(i.c c ((o c).1 e)).1,(i.c c ((o c).1 e)).2.1⟩)
theorem JP(h:dQ d m g w)(hC:BK d m)(hf:m.G.fu=false)(hb:m.G.bg=false)(b7:d.n<=1000000):Calls prog 146 #[P0 g.mb] w λe w'=>e=.returned (.tuple #[])/\mZ d m g w w':=by
 obtain⟨c1,_⟩:=h.mc 1 (by omega) (v:=.int .i64 d.n) rfl;obtain⟨c3,_⟩:=h.mc 3 (by omega) (v:=.int .i64 d.wk) rfl;obtain⟨Z,a1⟩:=h.mc 17 (by omega) (v:=.bool m.G.bg) rfl;obtain⟨aG,a6⟩:=h.mc 18 (by omega) (v:=.int .i64 m.G.mW) rfl;obtain⟨aE,a9⟩:=h.mc 19 (by omega) (v:=.int .i64 m.G.sure) rfl;obtain⟨aF,aH⟩:=h.mc 20 (by omega) (v:=.int .i64 m.G.lO) rfl;obtain⟨aK,a2⟩:=h.mc 21 (by omega) (v:=.int .i64 m.G.fI) rfl;obtain⟨aI,aC⟩:=h.mc 22 (by omega) (v:=.int .i64 m.G.wi) rfl;obtain⟨a3,aU⟩:=h.mc 23 (by omega) (v:=.bool m.G.fu) rfl;have le:=h.M.lt;have HR:=az h;have aB:=az (nG h hC);have a4:=az (ay (λN (hN:kg d m N)=>hN.le hC) hC.n2);clear h hC;rw[hf]at a3;have HF:=az hf;clear hf;rw[hb]at Z;have HB:=az hb;clear hb;generalize hu:m.G.fI=fI at *;generalize a5:m.G.wi=wi at *;have H:=az (ay hu a5);clear hu a5;go_in;go_wp2_with fail
 refine aB.mono ?_;rintro e w2 ⟨N,rfl,hN,u⟩;have HG:=az u;have HN:=az hN;have HM:Hid (Full w2 g.mb 112 24 24 (mE d m g)):=(HR.kept u).M;have e1:=(bh u (a:=⟨g.mb,1,none⟩) le).1.trans c1;have e3:=(bh u (a:=⟨g.mb,3,none⟩) le).1.trans c3;have aQ:=(bh u (a:=⟨g.mb,17,none⟩) le).1.trans Z;have aN:=(bh u (a:=⟨g.mb,17,none⟩) le).2.trans a1;have aM:=(bh u (a:=⟨g.mb,18,none⟩) le).1.trans aG;have aV:=(bh u (a:=⟨g.mb,18,none⟩) le).2.trans a6;have aP:=(bh u (a:=⟨g.mb,19,none⟩) le).1.trans aE;have aW:=(bh u (a:=⟨g.mb,19,none⟩) le).2.trans a9;clear u aB c1 c3 Z aG aE aF aK aI a3 a1 a6 a9 aH a2 aC aU;have aZ:N<=1000000000:=by have h1:=a4.1 N hN;have h2:=a4.2;omega
 clear hN;have qb:IntKind.i64.wrap ((N:Int)+(d.n:Int))=(N:Int)+(d.n:Int):=by rw[bl,bd _ (by omega)]
 have QW:Hid (wrap64 ((N:Int)+(d.n:Int))=(N:Int)+(d.n:Int)):=bd _ (by omega);go_upto_region 8 with fail
 generalize hl:(N:Int)+(d.n:Int)=mW at *;have HL:Hid (wrap64 ((N:Int)+(d.n:Int))=mW):=(congrArg wrap64 hl).trans QW;clear hl;have o:Hid (Full (((w2.setCell ⟨g.mb,17,none⟩ (.bool true)).setCell ⟨g.mb,18,none⟩ (.int .i64 mW)).setCell ⟨g.mb,19,none⟩ (.int .i64 N)) g.mb 112 24 24 (ep (ep (ep (mE d m g) 17 (.bool true)) 18 (.int .i64 mW)) 19 (.int .i64 N))):=((HM.ep 17 _).ep 18 _).ep 19 _;have a0:Hid (dy (λk=>k=g.mb) w2 (((w2.setCell ⟨g.mb,17,none⟩ (.bool true)).setCell ⟨g.mb,18,none⟩ (.int .i64 mW)).setCell ⟨g.mb,19,none⟩ (.int .i64 N))):=eV (b:=g.mb) (S:=λk=>k=g.mb) rfl (eV (b:=g.mb) (S:=λk=>k=g.mb) rfl (eV (b:=g.mb) (S:=λk=>k=g.mb) rfl (dk _ _) 17 _) 18 _) 19 _;clear e1 e3 aQ aM aP aN aV aW;generalize (((w2.setCell ⟨g.mb,17,none⟩ (.bool true)).setCell ⟨g.mb,18,none⟩ (.int .i64 mW)).setCell ⟨g.mb,19,none⟩ (.int .i64 N))=y at *;have J:y.cell? ⟨g.mb,17,none⟩=some (.bool true)/\y.frozen? ⟨g.mb,17,none⟩=false:=o.cells 17 (by omega);have aD:y.cell? ⟨g.mb,18,none⟩=some (.int .i64 mW)/\y.frozen? ⟨g.mb,18,none⟩=false:=o.cells 18 (by omega);have a8:y.cell? ⟨g.mb,19,none⟩=some (.int .i64 N)/\y.frozen? ⟨g.mb,19,none⟩=false:=o.cells 19 (by omega);have a7:y.cell? ⟨g.mb,20,none⟩=some (.int .i64 m.G.lO)/\y.frozen? ⟨g.mb,20,none⟩=false:=o.cells 20 (by omega);have W:y.cell? ⟨g.mb,21,none⟩=some (.int .i64 m.G.fI)/\y.frozen? ⟨g.mb,21,none⟩=false:=o.cells 21 (by omega);have Y:y.cell? ⟨g.mb,22,none⟩=some (.int .i64 m.G.wi)/\y.frozen? ⟨g.mb,22,none⟩=false:=o.cells 22 (by omega);rw[H.1]at W;rw[H.2]at Y;obtain⟨J,b1⟩:=J;obtain⟨aD,b5⟩:=aD;obtain⟨a8,b6⟩:=a8;obtain⟨a7,b3⟩:=a7;obtain⟨W,b0⟩:=W;obtain⟨Y,b2⟩:=Y;by_cases aA:mW<(d.wk:Int)
 .go_wp2_with fail
  go_end0;refine⟨rfl,mZ.mk' (N:=N) (G:={ m.G with mW:=0,sure:=N,fI:=wrap64 (fI+mW),bg:=false,wi:=wrap64 (wi+1),lO:=N }) HR HG (λ_ _=>HN) (by simp[Dc.rf,Dc.FG,Dc.Ef,Dc.F3,Dc.fin,HF.out,HB.out,H.1,H.2,HL.out,aA,bd 0 (by omega)]) (eV (b:=g.mb) (S:=λk=>k=g.mb) rfl (eV (b:=g.mb) (S:=λk=>k=g.mb) rfl (eV (b:=g.mb) (S:=λk=>k=g.mb) rfl (eV (b:=g.mb) (S:=λk=>k=g.mb) rfl (eV (b:=g.mb) (S:=λk=>k=g.mb) rfl (a0) 18 _) 21 _) 17 _) 22 _) 20 _) (((((((o).ep 18 _).ep 21 _).ep 17 _).ep 22 _).ep 20 _).congr (λi hi=>?_))⟩;have hc:i=0\/i=1\/i=2\/i=3\/i=4\/i=5\/i=6\/i=7\/i=8\/i=9\/i=10\/i=11\/i=12\/i=13\/i=14\/i=15\/i=16\/i=17\/i=18\/i=19\/i=20\/i=21\/i=22\/i=23:=by omega
  rcases hc with rfl|rfl|rfl|rfl|rfl|rfl|rfl|rfl|rfl|rfl|rfl|rfl|rfl|rfl|rfl|rfl|rfl|rfl|rfl|rfl|rfl|rfl|rfl|rfl<;>rfl
 have aJ:=az aA;by_cases hz:wrap64 (mW-(d.wk:Int))=0
 .go_wp2_with fail
  go_end0;refine⟨rfl,mZ.mk' (N:=N) (G:={ m.G with mW:=0,sure:=N,fI:=wrap64 (fI+(d.wk:Int)),bg:=false,wi:=wrap64 (wi+1),lO:=N }) HR HG (λ_ _=>HN) (by simp[Dc.rf,Dc.FG,Dc.Ef,Dc.F3,Dc.fin,HF.out,HB.out,H.1,H.2,HL.out,aa (by omega:¬mW<(d.wk:Int)),hz]) (eV (b:=g.mb) (S:=λk=>k=g.mb) rfl (eV (b:=g.mb) (S:=λk=>k=g.mb) rfl (eV (b:=g.mb) (S:=λk=>k=g.mb) rfl (eV (b:=g.mb) (S:=λk=>k=g.mb) rfl (eV (b:=g.mb) (S:=λk=>k=g.mb) rfl (a0) 18 _) 21 _) 17 _) 22 _) 20 _) (((((((o).ep 18 _).ep 21 _).ep 17 _).ep 22 _).ep 20 _).congr (λi hi=>?_))⟩;have hc:i=0\/i=1\/i=2\/i=3\/i=4\/i=5\/i=6\/i=7\/i=8\/i=9\/i=10\/i=11\/i=12\/i=13\/i=14\/i=15\/i=16\/i=17\/i=18\/i=19\/i=20\/i=21\/i=22\/i=23:=by omega
  rcases hc with rfl|rfl|rfl|rfl|rfl|rfl|rfl|rfl|rfl|rfl|rfl|rfl|rfl|rfl|rfl|rfl|rfl|rfl|rfl|rfl|rfl|rfl|rfl|rfl<;>rfl
 go_wp2_with fail
 go_end0;refine⟨rfl,mZ.mk' (N:=N) (G:={ m.G with mW:=wrap64 (mW-(d.wk:Int)),sure:=N,fI:=wrap64 (fI+(d.wk:Int)),bg:=true }) HR HG (λ_ _=>HN) (by simp[Dc.rf,Dc.FG,Dc.Ef,Dc.F3,Dc.fin,HF.out,HB.out,H.1,H.2,HL.out,aa (by omega:¬mW<(d.wk:Int)),hz]) (eV (b:=g.mb) (S:=λk=>k=g.mb) rfl (eV (b:=g.mb) (S:=λk=>k=g.mb) rfl (a0) 18 _) 21 _) ((((o).ep 18 _).ep 21 _).congr (λi hi=>?_))⟩;have hc:i=0\/i=1\/i=2\/i=3\/i=4\/i=5\/i=6\/i=7\/i=8\/i=9\/i=10\/i=11\/i=12\/i=13\/i=14\/i=15\/i=16\/i=17\/i=18\/i=19\/i=20\/i=21\/i=22\/i=23:=by omega
 rcases hc with rfl|rfl|rfl|rfl|rfl|rfl|rfl|rfl|rfl|rfl|rfl|rfl|rfl|rfl|rfl|rfl|rfl|rfl|rfl|rfl|rfl|rfl|rfl|rfl<;>rfl
theorem DK(h:dQ d m g w)(i:BK d m)(o:d.n<=1000000):Calls prog 146 #[P0 g.mb] w λe w'=>e=.returned (.tuple #[])/\mZ d m g w w':=by
 cases hf:m.G.fu with
 | true=>exact JQ h i hf
 | false=>
  cases hb:m.G.bg with
  | true=>exact JO h i hf hb
  | false=>exact JP h i hf hb o
end D
namespace D
open F
variable {w : World}
theorem I3{mb i nr a b c:Nat}{x:Int}{u:B.V}(hb:b<nr)(Y:c<nr)(rb:oU w i b (0,x))(rc:oU w i c u): Calls prog 214 #[P0 mb,.slice (some ⟨i,0,none⟩) nr nr,jY 10 a b c] w λe w'=>e=.returned (.int .i64 2)/\w.grownBy w' none:=by
 have Z:i<w.heap.size:=av w _ rb.1;have W:(b:Int)<(nr:Int):=by omega
 have H:(c:Int)<(nr:Int):=by omega
 have o:i<w.heap.size+1:=by omega
 obtain⟨G,J,_,_⟩:=rb;obtain⟨s0,s1,_,_⟩:=rc;simp only[]at G J;go_in;go_wp2_with fail
 go_quiet (fail)
 go_wp2_with fail
 go_ret;exact⟨rfl,db (au (au (au (ax _ _) _) _) _) _⟩
theorem IY{mb i nr a b c:Nat}{x:Int}{vb o:B.V}(ha:a<nr)(hb:b<nr)(hc:c<nr)(ra:oU w i a (0,x))(rb:oU w i b vb)(rc:oU w i c o): Calls prog 214 #[P0 mb,.slice (some ⟨i,0,none⟩) nr nr,jY 11 a b c] w λe w'=>e=.returned (.int .i64 2)/\w.grownBy w' none:=by
 have lr:i<w.heap.size:=av w _ ra.1;have Y:(a:Int)<(nr:Int):=by omega
 have u:(b:Int)<(nr:Int):=by omega
 have y:(c:Int)<(nr:Int):=by omega
 have G:i<w.heap.size+1:=by omega
 have H:i<w.heap.size+1+1:=by omega
 obtain⟨J,W,_,_⟩:=ra;obtain⟨u0,u1,_,_⟩:=rb;obtain⟨s0,s1,_,_⟩:=rc;simp only[]at J W;go_in;go_wp2_with fail
 go_quiet (fail)
 go_wp2_with fail
 go_ret;exact⟨rfl,db (au (au (au (ax _ _) _) _) _) _⟩
theorem GP{mb o nr a b c z cb G cc y sl i:Nat}{x H:Int}{va W:B.V}(ha:a<nr)(hb:b<nr)(hc:c<nr)(ra:oU w o a va)(rb:oU w o b (z+1,x))(rc:oU w o c (0,(i:Int)))(hz:z<G)(hn:G<1000000000)(J:w.cell? ⟨mb,12,none⟩=some (.slice (some ⟨cb,0,none⟩) G cc))(k1:w.cell? ⟨cb,z*2+1,none⟩=some (.int .i64 H))(k0:w.cell? ⟨cb,z*2,none⟩=some (.slice (some ⟨y,0,none⟩) sl sl))(hu:H<0)(hi:i<sl)(aB:sl<=8)(Ax:oU w y i W): Calls prog 214 #[P0 mb,.slice (some ⟨o,0,none⟩) nr nr,jY 10 a b c] w λe w'=>e=.returned (.int .i64 0)/\(sM w o a W).grownBy w' none:=by
 have lr:o<w.heap.size:=av w _ rb.1;have lm:mb<w.heap.size:=av w _ J;have lc:cb<w.heap.size:=av w _ k1;have ls:y<w.heap.size:=av w _ Ax.1;have aE:(a:Int)<(nr:Int):=by omega
 have Y:(b:Int)<(nr:Int):=by omega
 have Z:(c:Int)<(nr:Int):=by omega
 have a5:o<w.heap.size+1:=by omega
 have a6:o<w.heap.size+1+1:=by omega
 have a4:mb<w.heap.size+1:=by omega
 have a7:mb<w.heap.size+1+1:=by omega
 have aD:cb<w.heap.size+1:=by omega
 have a8:cb<w.heap.size+1+1:=by omega
 have aC:y<w.heap.size+1:=by omega
 have a9:y<w.heap.size+1+1:=by omega
 have q1:IntKind.i64.wrap ((z:Int)+1-1)=(z:Int):=fp (by omega);have q2:IntKind.i64.wrap (z:Int)=(z:Int):=by rw[bl,bd _ (by omega)]
 have q3:(z:Int)<(G:Int):=by omega
 have q4:(0:Int)<=(z:Int):=by omega
 have q5:(((z:Int)+1) == 0)=false:=by rw[dK];omega
 have q6:¬(0<=H):=by omega
 have b1:¬((i:Int)<0):=by omega
 have b2:¬((sl:Int)<=(i:Int)):=by omega
 have b3:(i:Int)<(sl:Int):=by omega
 have b4:IntKind.i64.wrap (sl:Int)=(sl:Int):=by rw[bl,bd _ (by omega)]
 obtain⟨u,r1,_,_⟩:=rb;obtain⟨s0,s1,_,_⟩:=rc;obtain⟨a0,a1,a2,a3⟩:=ra;obtain⟨v0,v1,_,_⟩:=Ax;simp only[]at r1 s0 s1;go_in;go_wp2_with fail
 go_quiet (fail)
 go_wp2_with fail
 go_quiet (fail)
 go_wp2_with fail
 go_region
 all_goals
  go_wp2_with fail
  go_ret;refine⟨rfl,?_⟩;exact jl (jl (db (au (au (au (ax _ _) _) _) _) _) _ _) _ _
theorem GO{mb o nr a b c z cb G cc u sl i:Nat}{x H:Int}{W vs:B.V}(ha:a<nr)(hb:b<nr)(hc:c<nr)(rb:oU w o a (z+1,x))(rc:oU w o b (0,(i:Int)))(ra:oU w o c W)(hz:z<G)(hn:G<1000000000)(J:w.cell? ⟨mb,12,none⟩=some (.slice (some ⟨cb,0,none⟩) G cc))(k1:w.cell? ⟨cb,z*2+1,none⟩=some (.int .i64 H))(k0:w.cell? ⟨cb,z*2,none⟩=some (.slice (some ⟨u,0,none⟩) sl sl))(hu:H<0)(hi:i<sl)(aD:sl<=8)(Ax:oU w u i vs): Calls prog 214 #[P0 mb,.slice (some ⟨o,0,none⟩) nr nr,jY 11 a b c] w λe w'=>e=.returned (.int .i64 0)/\(sM w u i W).grownBy w' none:=by
 have lr:o<w.heap.size:=av w _ rb.1;have lm:mb<w.heap.size:=av w _ J;have lc:cb<w.heap.size:=av w _ k1;have ls:u<w.heap.size:=av w _ Ax.1;have aH:(a:Int)<(nr:Int):=by omega
 have Y:(b:Int)<(nr:Int):=by omega
 have Z:(c:Int)<(nr:Int):=by omega
 have a5:o<w.heap.size+1:=by omega
 have a8:o<w.heap.size+1+1:=by omega
 have a4:mb<w.heap.size+1:=by omega
 have a9:mb<w.heap.size+1+1:=by omega
 have aG:cb<w.heap.size+1:=by omega
 have aA:cb<w.heap.size+1+1:=by omega
 have aE:u<w.heap.size+1:=by omega
 have aB:u<w.heap.size+1+1:=by omega
 have q1:IntKind.i64.wrap ((z:Int)+1-1)=(z:Int):=fp (by omega);have q2:IntKind.i64.wrap (z:Int)=(z:Int):=by rw[bl,bd _ (by omega)]
 have q3:(z:Int)<(G:Int):=by omega
 have q4:(0:Int)<=(z:Int):=by omega
 have q5:(((z:Int)+1) == 0)=false:=by rw[dK];omega
 have q6:¬(0<=H):=by omega
 have b1:¬((i:Int)<0):=by omega
 have b2:¬((sl:Int)<=(i:Int)):=by omega
 have b3:(i:Int)<(sl:Int):=by omega
 have b4:IntKind.i64.wrap (sl:Int)=(sl:Int):=by rw[bl,bd _ (by omega)]
 obtain⟨y,r1,_,_⟩:=rb;obtain⟨s0,s1,_,_⟩:=rc;obtain⟨a0,a1,a2,a3⟩:=ra;obtain⟨v0,v1,v2,v3⟩:=Ax;simp only[]at r1 s0 s1;go_in;go_wp2_with fail
 go_quiet (fail)
 go_wp2_with fail
 go_quiet (fail)
 go_wp2_with fail
 go_region
 all_goals
  go_wp2_with fail
  go_ret;refine⟨rfl,?_⟩;exact jl (jl (db (au (au (au (ax _ _) _) _) _) _) _ _) _ _
theorem wT{o i j mb u nr a b c z cb J cc sN sl v:Nat}{x H y why:Int}{vo:B.V}(ho:(o=10/\b=i/\c=j)\/(o=11/\a=i/\b=j/\(c:Int)<(nr:Int)/\oU w u c vo))(hi:i<nr)(hj:j<nr)(Z:oU w u i (z+1,x))(rt:oU w u j (v,y))(hz:z<J)(hn:J<1000000000)(W:w.cell? ⟨mb,12,none⟩=some (.slice (some ⟨cb,0,none⟩) J cc))(k1:w.cell? ⟨cb,z*2+1,none⟩=some (.int .i64 H))(k0:w.cell? ⟨cb,z*2,none⟩=some (.slice (some ⟨sN,0,none⟩) sl sl))(hX:(0<=H/\why=2)\/(¬(0<=H)/\(0:Int)<(v:Int)/\why=1)\/(¬(0<=H)/\v=0/\decide (y<0)=true/\why=3)\/(¬(0<=H)/\v=0/\decide (y<0)=false/\decide ((sl:Int)<=y)=true/\why=3)): Calls prog 214 #[P0 mb,.slice (some ⟨u,0,none⟩) nr nr,jY o a b c] w λe w'=>e=.returned (.int .i64 why)/\w.grownBy w' none:=by
 have lr:u<w.heap.size:=av w _ Z.1;have lm:mb<w.heap.size:=av w _ W;have lc:cb<w.heap.size:=av w _ k1;have a5:(i:Int)<(nr:Int):=by omega
 have a6:(j:Int)<(nr:Int):=by omega
 have a2:u<w.heap.size+1:=by omega
 have a7:u<w.heap.size+1+1:=by omega
 have a1:mb<w.heap.size+1:=by omega
 have a8:mb<w.heap.size+1+1:=by omega
 have aB:cb<w.heap.size+1:=by omega
 have a9:cb<w.heap.size+1+1:=by omega
 have q1:IntKind.i64.wrap ((z:Int)+1-1)=(z:Int):=fp (by omega);have q2:IntKind.i64.wrap (z:Int)=(z:Int):=by rw[bl,bd _ (by omega)]
 have q3:(z:Int)<(J:Int):=by omega
 have q4:(0:Int)<=(z:Int):=by omega
 have q5:(((z:Int)+1) == 0)=false:=by rw[dK];omega
 obtain⟨G,r1,_,_⟩:=Z;have r0:w.cell? ⟨u,i*2,none⟩=some (.int .i64 ((z:Int)+1)):=G;clear G;obtain⟨s0,s1,_,_⟩:=rt;simp only[]at r1 s0 s1;rcases ho with⟨rfl,rfl,rfl⟩|⟨rfl,rfl,rfl,a0,o0,o1,_,_⟩<;>rcases hX with⟨Y,rfl⟩|⟨Y,q7,rfl⟩|⟨Y,rfl,b1,rfl⟩|⟨Y,rfl,b1,b2,rfl⟩
 all_goals
  try simp only[]at s0
  go_in;go_wp2_with fail
  go_quiet (fail)
  go_wp2_with fail
  try
   go_quiet (fail)
   go_wp2_with fail
  go_ret;refine⟨rfl,?_⟩;first|exact db (db (au (au (au (ax _ _) _) _) _) _) _|exact db (au (au (au (ax _ _) _) _) _) _
end D
end Go.Proofs.YtnjiinbhbjpfkaaGreatDoor
