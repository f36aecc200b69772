import Derived.Test.YtnjiinbhbjpfkaaGreatDoorTQ
set_option maxRecDepth 100000
set_option maxHeartbeats 0
set_option linter.all false
namespace Go.Proofs.YtnjiinbhbjpfkaaGreatDoor
open Go.RowKit Go.Proofs.Tryz
section
variable {o:Oper}{w:aa}
def Ii(w w':aa)(ao:Option Addr)(n cap m:Nat)(v':Value):Prop:=(v'=.slice ao (n+m) cap/\w.grownBy w' (Value.slice ao n cap).ownBlock)\/∃g c,v'=.slice (some ⟨g,0,none⟩) (n+m) c/\w.heap.size<=g/\w.grownBy w' none
def vp{P:Program}(w:aa)(t ty e:TypeId)(i:TypeInfo)(z:Value)(size bytes:Nat)(ht:P.underlying t=some (.slice e))(hi:P.info? e=some i)(hz:i.zero=some z)(y:i.size=size)(a3:i.bytes=bytes)(a1:z.cells.size=size)(a4:0<size)(ao:Option Addr)(n cap:Nat)(xs:List Value)(a0:w.ownsRow 0 e size (.slice ao n cap) n xs)(ad:Addr)(m c:Nat)(o:List Value)(hl:o.length=m*size)(H:∀j u,o[j]? = some u->w.cell? (ad.add j)=some u)(h1:∀u∈o,u.oneCell'=true)(a2:n+m<=maxLen)(G:(n+m)*bytes<=140737488355328)(hm:0<m): ∃J w',(Builtin.append_ #[t,t] ty #[.slice ao n cap,.slice (some ad) m c]).run P w=.ok J w'/\w'.ownsRow 0 e size J (n+m) (xs++o)/\Ii w w' ao n cap m J:=by
 have Z:∀(J:Value) (w':aa),w'.ownsRow w.heap.size e size J (n+m) (xs++o)->∃g c,J=dA g (n+m) c/\w.heap.size<=g:=λJ w' h=>by
  obtain⟨g,c',rfl⟩:=ee h ag;exact⟨g,c',rfl,(dP h g rfl).1⟩
 rcases id a0 with⟨a7,⟨hv,h0⟩|⟨g,c',a8,hv,_,h2,h3,h4,h5,h6⟩⟩
 .injection hv with e1 e2 e3;subst e1 e2 e3;obtain rfl:xs=[]:=List.eq_nil_of_length_eq_zero ag;obtain⟨J,w',W,r1,r2,_⟩:=run_append_own (P:=P) w w.heap.size t ty e i z size bytes ht hi hz y a3 a1 a4 (.slice none 0 0) 0 [] (eg w _ e size) ad m c o hl H h1 a2 G (bq _);obtain⟨g,c',rfl,hg⟩:=Z J w' r1;exact⟨_,w',W,gV r1 (dk _),ah ⟨g,c',rfl,hg,r2⟩⟩
 injection hv with e1 e2 e3;subst e1 e3;by_cases Y:n+m<=cap
 .obtain⟨J,w',hr,r1,r2,_⟩:=run_append_own (P:=P) w 0 t ty e i z size bytes ht hi hz y a3 a1 a4 _ n xs a0 ad m c o hl H h1 a2 G (dk _);refine⟨J,w',hr,r1,af ⟨?_,r2⟩⟩;subst y;have a6:=run_append_room (P:=P) w t ty e i ht hi g n cap a8 h2 ad m c o hl H h1 Y (by rw[hl,h5,<-Nat.add_mul];exact Nat.mul_le_mul_right _ Y);grind
 have a9:∀j u,xs[j]? = some u->w.cell? (((ay g 0):Addr).add j)=some u:=λj u hu=>by
  have hj:j<n*size:=by
   have:=(cf.1 hu).1;omega
  rw[<-h6,dO,bf hj]at hu;have a5:dS w g j=some u:=by
   simp only[World.cell?,h2];simpa using hu
  grind[Addr.add]
 obtain⟨J,w',W,r1,r2⟩:=run_append_arg_grows (P:=P) w t ty e i z size bytes ht hi hz y a3 a1 a4 (ay g 0) n cap xs a7 a9 ad m c o hl H ag a2 G;obtain⟨g',c',rfl,hg⟩:=Z J w' r1;exact⟨_,w',W,gV r1 (dk _),ah ⟨g',c',rfl,hg,r2⟩⟩
def nN{P:Program}{ops:Array Oper}{rest:List Oper}{a:Act}{Q:Exit->Act->aa->Prop}(a1:o.guard=none)(s x:Operand)(t:TypeId)(ho:o.op=.call { callee:=.builtin .append,args:=#[s,x],argTypes:=#[t,t] })(e:TypeId)(i:TypeInfo)(z:Value)(size bytes:Nat)(ht:P.underlying t=some (.slice e))(hi:P.info? e=some i)(hz:i.zero=some z)(H:i.size=size)(a0:i.bytes=bytes)(a2:z.cells.size=size)(a4:0<size)(Z:Option Addr)(n cap:Nat)(xs:List Value)(hs:a.eval s=.slice Z n cap)(W:w.ownsRow 0 e size (.slice Z n cap) n xs)(ad:Addr)(m c:Nat)(y:List Value)(hx:a.eval x=.slice (some ad) m c)(hl:y.length=m*size)(J:∀j u,y[j]? = some u->w.cell? (ad.add j)=some u)(h1:∀u∈y,u.oneCell'=true)(a3:n+m<=maxLen)(G:(n+m)*bytes<=140737488355328)(hm:0<m)(h:∀Y w',w'.ownsRow 0 e size Y (n+m) (xs++y)->Ii w w' Z n cap m Y->wpList P ops Q rest (a.put o.dst Y) w'):wpList P ops Q (o :: rest) a w:=by
 refine wpList_plain a1 λK hK=>?_;obtain⟨Y,w',hr,h2,h3⟩:=vp (P:=P) w t o.type e i z size bytes ht hi hz H a0 a2 a4 Z n cap xs W ad m c y hl J h1 a3 G hm;unfold Oper.wp execOp;simp only[ho,resolve,invoke,builtin,Sem.run_bind,Sem.run_pure,Result.andThen_ok,List.map_toArray,List.map_cons,List.map_nil,hs,hx,hr];exact hK _ _ (h Y w' h2 h3)
def yn{P:Program}(w:aa)(dT sT ty u:TypeId)(g y J:Nat)(sp:Option Addr)(e Y sz:Nat)(o:Array Value)(t:TypeId)(G:List Value)(hu:P.underlying dT=some (.slice u))(hs:(P.info? u).map (·.size)=some sz)(hg:w.heap[g]? = some (.cells o t (0,0)))(a1:e<=y)(hn:G.length=e*sz)(H:sp=none->G=[])(Z:∀a,sp=some a->∀j v,G[j]? = some v->w.cell? (a.add j)=some v)(a0:G.length<=o.size)(h1:∀v∈G,v.oneCell'=true): (Builtin.copy_ #[dT,sT] ty #[dA g y J,.slice sp e Y]).run P w=.ok (goInt e) (w.setRow g (G++o.toList.drop G.length).toArray):=by
 have W:=run_storeCells_at P g 0 t G 0 o w hg ag h1;have hm:Nat.min e y=e:=Nat.min_eq_left a1
 cases hq:P.info? u with
 | none=>grind
 | some i=>
  cases sp with
  | none=>
   have hc:=H rfl;subst hc;simp[Builtin.copy_,run_underlying hu,Builtin.lenOf,Builtin.firstCells,sizeOf,typeInfo,hq,hm,storeCells];grind[setRow_self]
  | some a=>
   have hl:=run_loadCells_list (P:=P) w a G (Z a rfl);rw[hn]at hl;simp at W;simp[Builtin.copy_,run_underlying hu,Builtin.lenOf,Builtin.firstCells,sizeOf,typeInfo,hq,(by simpa[hq] using hs),hm,hl,W]
def tV{P:Program}{ops:Array Oper}{rest:List Oper}{a:Act}{Q:Exit->Act->aa->Prop}(a1:o.guard=none)(d s:Operand)(dT sT:TypeId)(ho:o.op=.call { callee:=.builtin .copy,args:=#[d,s],argTypes:=#[dT,sT] })(i:TypeId)(sz:Nat)(hu:P.underlying dT=some (.slice i))(a2:(P.info? i).map (·.size)=some sz)(g u G e J:Nat)(sp:Option Addr)(hd:a.eval d=dA g u G)(hs:a.eval s=.slice sp e J)(y:Array Value)(t:TypeId)(hg:w.heap[g]? = some (.cells y t (0,0)))(H:List Value)(a3:e<=u)(hn:H.length=e*sz)(W:sp=none->H=[])(Z:∀a,sp=some a->∀j v,H[j]? = some v->w.cell? (a.add j)=some v)(a0:H.length<=y.size)(h1:∀v∈H,v.oneCell'=true)(h:wpList P ops Q rest (a.put o.dst (goInt e)) (w.setRow g (H++y.toList.drop H.length).toArray)):wpList P ops Q (o :: rest) a w:=by
 refine wpList_plain a1 λK hK=>?_;unfold Oper.wp;simp[execOp,ho,resolve,invoke,builtin,hd,hs,yn (P:=P) w dT sT o.type i g u G sp e J sz y t H hu a2 hg a3 hn W Z a0 h1,Result.andThen];exact hK _ _ h
namespace F
abbrev Sl:=Option Addr×Nat×Nat
variable {sz:Nat}{w:aa}{x:Sl}
def qo(x:Sl):Value:=.slice x.1 x.2.1 x.2.2
def om(N:Int)(j:Nat):Value:=.int .i64 (if j % 3=0 then N else 0)
def sR(N:Int)(_:Nat):Value:=.int .i64 N
def Rd(w:aa)(T:TypeId)(sz:Nat)(P:Nat->Value)(x:Sl):Prop:=w.ownsRow 0 T sz (qo x) x.2.1 (D.rowP (x.2.1*sz) P)
theorem Rd.fr{w':aa}{T:TypeId}{P:Nat->Value}(h:Rd w T sz P x)(i:∀k,fi x.1=some k->w'.heap[k]? = w.heap[k]?):Rd w' T sz P x:=dQ h (λk e=>i k (by rw[<-dF x.1 x.2.1 x.2.2];exact e))
theorem Rd.lt{T:TypeId}{P:Nat->Value}(h:Rd w T sz P x){k:Nat}(i:fi x.1=some k):k<w.heap.size/\∃e,w.heap[k]? = some (.cells e T (0,0)):=(dP h k (by grind[qo,dF])).2
def iT(E:List (Sl×Int)):List Value:=E.flatMap (λx=>[qo x.1,.int .i64 x.2])
def xN(n:Nat)(a b:Value)(j:Nat):Value:=if j=0 then .int .i64 (n:Int) else if j=1 then a else if j=2 then b else .int .i64 0
end F
end
namespace F
open D
def Tryz.Hg:(prog.info? 119).map (λi=>(i.zero,i.size,i.bytes))=some (some (.agg #[.slice none 0 0,aj 0]),2,32):=by kernel_rfl
def Tryz.Hf:(prog.info? 121).map (λi=>(i.zero,i.size,i.bytes))=some (some (.agg #[.slice none 0 0,aj 0]),2,32):=by kernel_rfl
def Tryz.JT:(prog.info? 3).map (λi=>(i.zero,i.size,i.bytes))=some (some (aj 0),1,8):=by kernel_rfl
def Tryz.vn:prog.underlying 54=some (.slice 3):=by kernel_rfl
def Tryz.underlying78:prog.underlying 78=some (.slice 119):=by kernel_rfl
def Tryz.underlying79:prog.underlying 79=some (.slice 121):=by kernel_rfl
section
variable {w w':aa}{T:TypeId}{sz:Nat}{P:Nat → Value}
theorem mG(n:Nat)(P:Nat->Value):(rowP n P).length=n:=by grind[rowP]
theorem mZ{n j:Nat}(P:Nat->Value)(h:j<n):(rowP n P)[j]? = some (P j):=by grind[rowP]
theorem rd_mk{g n c:Nat}(u:jF w g T (c*sz))(hn:n<=c)(y:c<=maxLen)(hx:∀j,j<n*sz->w.cell? (ay g j)=some (P j)):Rd w T sz P (some (ay g 0),n,c):=by
 obtain⟨e,o,G⟩:=u;refine⟨mG _ _,ah ⟨g,c,e,rfl,dk _,o,hn,y,G,?_⟩⟩;apply List.ext_getElem?
 intro j;show(e.toList.take (n*sz))[j]? = (rowP (n*sz) P)[j]?;by_cases i:j<n*sz
 .rw[mZ P i,dO,bf i];grind[World.cell?]
 grind[List.getElem?_eq_none,mG]
theorem AY{g n c j:Nat}(h:Rd w T sz P (some (ay g 0),n,c))(G:j<n*sz):w.cell? (ay g j)=some (P j):=by
 rcases h.2 with⟨o,_⟩|⟨g',Y,u,o,_,W,_,_,Z,J⟩
 .cases o
 have e:qo (some (ay g 0),n,c)=dA g n c:=rfl;rw[e]at o;injection o with i _ _;injection i with i;injection i with i;subst i;have H:=mZ (n:=n*sz) P G;rw[<-J,dO,bf G]at H;grind[World.cell?]
def Gw{ad:Option Addr}{n c:Nat}{xs:List Value}(h:w.ownsRow 0 T sz (.slice ad n c) n xs)(hn:n≠0):∃g,ad=some (ay g 0)/\jF w g T (c*sz)/\n<=c/\c<=maxLen:=by
 rcases h.2 with⟨_,i⟩|⟨g,W,e,i,_,y,u,o,J,_⟩
 .omega
 injection i with H _ G;subst G;exact⟨g,H,⟨e,y,J⟩,u,o⟩
def wU{x:Sl}(h:Rd w T sz P x){k:Nat}(i:fi x.1=some k):x.1=some (ay k 0)/\jF w k T (x.2.2*sz)/\x.2.1<=x.2.2/\x.2.2<=maxLen:=by
 rcases h.2 with⟨o,_⟩|⟨g,H,u,o,_,Y,W,J,h5,_⟩
 .have:x.1=none:=by unfold qo at o;injection o
  rw[this]at i;cases i
 have y:Value.slice x.1 x.2.1 x.2.2=dA g x.2.1 H:=o;injection y with G _ Z;rw[G]at i;have e:g=k:=by injection i
 subst e;rw[Z];exact⟨G,⟨u,Y,h5⟩,W,J⟩
def Jq{x y:Sl}(h:Rd w T sz P y)(hx:Rd w T sz P x){k:Nat}(W:fi y.1=some k)(o:fi x.1=some k)(hs:sz≠0)(a0:y.2.1<=x.2.1){n:Nat}(hn:x.2.1<=n)(u:Rd w' T sz P (x.1,n,x.2.2)):Rd w' T sz P y:=by
 obtain⟨J,⟨c1,a2,a3⟩,a4,_⟩:=wU h W;obtain⟨b1,⟨c2,i,G⟩,_,_⟩:=wU hx o;rw[a2]at i;injection i with i;injection i with i _ _;have H:y.2.2=x.2.2:=by
  rw[<-i,a3]at G;exact Nat.eq_of_mul_eq_mul_right ag G
 obtain⟨_,d2,_,Z⟩:=wU (x:=(x.1,n,x.2.2)) u (k:=k) (by exact o);have e:y=(some (ay k 0),y.2.1,x.2.2):=by
  obtain⟨y1,y2,y3⟩:=y;simp only at J H ⊢;rw[J,H]
 grind[rd_mk,AY,Nat.lt_of_lt_of_le,Nat.mul_le_mul_right]
end
variable {l:Sl}{sz:Nat}{w:aa}
def xO(w:aa)(T:TypeId)(sz:Nat)(P:Nat->Value)(l:Sl)(j:Nat):Prop:=(l.2.1=0/\Rd w T sz P l)\/∃g,l.1=some ⟨g,0,none⟩/\l.2.1<=l.2.2/\l.2.2<=maxLen/\Full w g T (l.2.2*sz) (j*sz) P
def xO.all{T:TypeId}{P:Nat->Value}(h:xO w T sz P l l.2.1):Rd w T sz P l:=by
 rcases h with⟨_,h⟩|⟨g,y,H,G,u⟩
 .exact h
 have e:l=(some (ay g 0),l.2.1,l.2.2):=by rw[<-y]
 rw[e];obtain⟨o,k1,k2,J⟩:=id u;exact rd_mk ⟨o,k1,k2⟩ H G (λi hi=>u.cell i hi)
def xO.MS{T:TypeId}{P:Nat->Value}{xs:List Value}(h:w.ownsRow 0 T sz (qo l) l.2.1 xs):xO w T sz P l 0:=by
 by_cases e:l.2.1=0
 .refine af ⟨e,?_⟩;have G:xs=rowP (l.2.1*sz) P:=by
   have:=h.1;rw[e,Nat.zero_mul]at this ⊢;rw[List.eq_nil_of_length_eq_zero this];rfl
  grind[Rd]
 obtain⟨g,y,u,o,i⟩:=Gw h e;refine ah ⟨g,y,o,i,?_⟩;rw[Nat.zero_mul];exact u.full P
def xO.place{T:TypeId}{j:Nat}{P:Nat->Value}(h:xO w T sz P l j)(o:j<l.2.1):∃g,l.1=some (ay g 0)/\jF w g T (l.2.2*sz)/\j<l.2.2:=by
 rcases h with⟨i,h⟩|⟨g,i,y,u,e,k1,k2,_⟩
 .omega
 exact⟨g,i,⟨e,k1,k2⟩,ag⟩
def J8{T':TypeId}{bk f m ce g c:Nat}{ae:Option Addr}{x:Sl}{N:Int}{L:List Value}{Ev:Nat->Value}{o:Obj}{wr i:aa}(Y:(81:TypeId)≠T')(hf:f<3)(G:Full wr bk 81 3 3 Ev)(hR:wr.ownsRow 0 T' 2 (.slice ae m ce) m L)(Z:i.ownsRow 0 T' 2 (dA g (m+1) c) (m+1) (L++[qo x,aj N]))(u:(wr.alloc o).grownBy i (Value.slice ae m ce).ownBlock)(hm:(Value.slice ae m ce).ownBlock=some g\/wr.heap.size<=g): Full (i.setCell (ay bk f) (dA g (m+1) c)) bk 81 3 3 (eC Ev f (dA g (m+1) c))/\(i.setCell (ay bk f) (dA g (m+1) c)).ownsRow 0 T' 2 (dA g (m+1) c) (m+1) (L++[qo x,aj N])/\dM (λk=>k=bk\/fi ae=some k) wr (i.setCell (ay bk f) (dA g (m+1) c)):=by
 have H:=G.lt;have W:Full i bk 81 3 3 Ev:=(G.block (av _ _ _ H)).block (u.block bk fH (λe=>(λk y=>eU hR G Y k y) bk e.symm rfl));refine⟨W.eC f _,dQ Z (λk y=>ab _ _ _ _ (eU Z W Y k y)),bp ?_ (af (af rfl)) _⟩;refine dM.trans (S1:=λk=>fi ae=some k) (gP (dw _ wr) _) ⟨u.os,u.tape,u.output,u.size,λk y J=>u.block k y (λe=>J (by grind[dF]))⟩ (λk h _=>ah h)
structure tz(w:aa) (T' T:TypeId) (sz f:Nat) (P:Nat->Value) (bk:Nat) (Ev:Nat->Value) (L0:List Value) (m0:Nat) (ae0:Option Addr) (l:Sl) (N:Int) (Q:List Sl) (x:Sl) (ae:Option Addr) (ce:Nat) (wr:aa):Prop where
 f:Full wr bk 81 3 3 (eC Ev f (.slice ae (m0+Q.length) ce))
 r:wr.ownsRow 0 T' 2 (.slice ae (m0+Q.length) ce) (m0+Q.length) (L0++iT (Q.map (λy=>(y,N))))
 q:∀y,y∈Q->Rd wr T sz P y/\y.2.1<=x.2.1/\∀k,fi y.1=some k->fi l.1=some k\/w.heap.size<=k
 x:Rd wr T sz P x/\∀k,fi x.1=some k->fi l.1=some k\/w.heap.size<=k
 o:dM (λk=>k=bk\/fi ae0=some k\/fi l.1=some k) w wr
 a:∀k,fi ae=some k->fi ae0=some k\/w.heap.size<=k
section
variable {w:aa}{T' T:TypeId}{sz f:Nat}{P:Nat → Value}{bk:Nat}{Ev:Nat → Value}{L0:List Value}{m0:Nat}{ae0:Option Addr}{l:Sl}{N:Int}{Q:List Sl}{x:Sl}{ae:Option Addr}{ce:Nat}{wr:aa}
theorem CP(Q:List Sl)(x:Sl)(N:Int):iT ((Q++[x]).map (λy=>(y,N)))=iT (Q.map (λy=>(y,N)))++[qo x,aj N]:=by grind[iT]
def tz.line{o:Obj}{Y:aa}{g c:Nat}(h:tz w T' T sz f P bk Ev L0 m0 ae0 l N Q x ae ce wr)(a1:(81:TypeId)≠T')(Z:T≠T')(a0:(81:TypeId)≠T)(hf:f<3)(ho:Y.ownsRow 0 T' 2 (dA g (m0+Q.length+1) c) (m0+Q.length+1) (L0++iT (Q.map (λy=>(y,N)))++[qo x,aj N]))(hg:(wr.alloc o).grownBy Y (Value.slice ae (m0+Q.length) ce).ownBlock)(W:(Value.slice ae (m0+Q.length) ce).ownBlock=some g\/wr.heap.size<=g): tz w T' T sz f P bk Ev L0 m0 ae0 l N (Q++[x]) x (some (ay g 0)) c (Y.setCell (ay bk f) (dA g (m0+Q.length+1) c)):=by
 obtain⟨h1,h2,h3⟩:=J8 a1 hf h.f h.r ho hg W;have a3:=h.o.size;have J:∀y,Rd wr T sz P y->Rd (Y.setCell (ay bk f) (dA g (m0+Q.length+1) c)) T sz P y:=λy G=>G.fr (λk u=>h3.same (G.lt u).1 (λhs=>by
  obtain⟨a2,i⟩:=(G.lt u).2;rcases hs with rfl|hs
  .obtain⟨c2,H,_⟩:=h.f;grind
  obtain⟨_,_,c2,H⟩:=dP h.r k (by grind[dF]);grind))
 have hl:m0+(Q++[x]).length=m0+Q.length+1:=jx cw;refine⟨?_,?_,λy G=>?_,⟨J x h.x.1,h.x.2⟩,h.o.trans h3 (λk u hl=>?_),λk u=>?_⟩
 .rw[hl];refine h1.congr (λj hj=>?_);unfold eC;grind
 .grind[CP,List.append_assoc]
 .rcases dV.1 G with G|G
  .grind[F.tz.q]
  have e:=fX.1 G;rw[e];exact⟨J x h.x.1,bq _,h.x.2⟩
 .grind[F.tz.a]
 have e:g=k:=by injection u
 grind[dF,F.tz.a]
def tz.more{o:Obj}{J:aa}{v':Value}{Y:List Value}(h:tz w T' T sz f P bk Ev L0 m0 ae0 l N Q x ae ce wr)(aC:(81:TypeId)≠T')(a4:T≠T')(a5:(81:TypeId)≠T)(hs:sz≠0)(a2:rowP (x.2.1*sz) P++Y=rowP ((x.2.1+1)*sz) P)(ho:J.ownsRow 0 T sz v' (x.2.1+1) (rowP (x.2.1*sz) P++Y))(G:Ii (wr.alloc o) J x.1 x.2.1 x.2.2 1 v'): ∃H:Sl,v'=qo H/\H.2.1=x.2.1+1/\(∀k,fi H.1=some k->fi x.1=some k\/wr.heap.size<k)/\tz w T' T sz f P bk Ev L0 m0 ae0 l N Q H ae ce J:=by
 rw[a2]at ho;have aB:=h.o.size;have a3:∀k,fi x.1=some k->k≠bk/\fi ae≠some k:=λk i=>by
  obtain⟨aA,u⟩:=(h.x.1.lt i).2;refine⟨λe=>?_,λe=>?_⟩
  .obtain⟨c2,a1,_⟩:=h.f;grind
  obtain⟨_,_,c2,a1⟩:=dP h.r k (by grind[dF]);grind
 have a0:∀H:Sl,v'=qo H->H.2.1=x.2.1+1->(∀k,fi H.1=some k->fi x.1=some k\/wr.heap.size<k)->dM (λk=>fi x.1=some k) wr J->(∀y,y∈Q->Rd J T sz P y)->tz w T' T sz f P bk Ev L0 m0 ae0 l N Q H ae ce J:=by
  intro H e1 e2 e3 Z hq;have a9:Rd J T sz P H:=by
   unfold Rd;rw[<-e1,e2];exact ho
  refine⟨h.f.block (Z.same h.f.lt (λe=>(a3 _ e).1 rfl)),dQ h.r (λk i=>Z.same (dP h.r k i).2.1 (λe=>(a3 k e).2 (by grind[dF]))),λy W=>⟨hq y W,?_,(h.q y W).2.2⟩,⟨a9,λk i=>?_⟩,h.o.trans Z (λk i hl=>?_),h.a⟩
  .have:=(h.q y W).2.1;omega
  .rcases e3 k i with h4|h4
   .exact h.x.2 k h4
   omega
  rcases h.x.2 k i with h4|h4
  .grind
  omega
 rcases G with⟨rfl,G⟩|⟨g,c,rfl,a7,G⟩
 .rw[dF]at G;have Z:=dM.trans (S1:=λk=>fi x.1=some k) (gP (dw _ wr) _) ⟨G.os,G.tape,G.output,G.size,λk i a6=>G.block k i (λe=>a6 e.symm)⟩ (λk h _=>h);refine⟨(x.1,x.2.1+1,x.2.2),rfl,rfl,λk i=>af i,a0 (x.1,x.2.1+1,x.2.2) rfl rfl (λk i=>af i) Z (λy W=>?_)⟩;obtain⟨y1,y2,y3⟩:=h.q y W;by_cases u:∃k,fi y.1=some k/\fi x.1=some k
  .obtain⟨k,k1,k2⟩:=u;exact Jq y1 h.x.1 k1 k2 hs y2 (Nat.le_succ _) ho
  grind[F.Rd.fr,dM.same,F.Rd.lt]
 have Z:dM (λk=>fi x.1=some k) wr J:=dM.trans (S1:=λ_=>False) (gP (dw _ wr) _) (ep G) (λk h _=>h.elim);have a8:dM (λ_=>False) wr J:=dM.trans (S1:=λ_=>False) (gP (dw _ wr) _) (ep G) (λk h _=>h.elim);have hz:wr.heap.size<g:=by simp at a7;omega
 have e3:∀k,fi (some ((ay g 0):Addr))=some k->fi x.1=some k\/wr.heap.size<k:=λk i=>by
  have e:g=k:=by injection i
  omega
 exact⟨(some (ay g 0),x.2.1+1,c),rfl,rfl,e3,a0 (some (ay g 0),x.2.1+1,c) rfl rfl e3 Z (λy W=>(h.q y W).1.fr (λk i=>a8.same ((h.q y W).1.lt i).1 (λe=>e)))⟩
end
structure vE(w:aa) (T' T:TypeId) (sz:Nat) (P:Nat->Value) (bk:Nat) (Ev:Nat->Value) (L0:List Value) (m0:Nat) (ae:Option Addr) (ce:Nat) (l:Sl) (j:Nat) (wr:aa):Prop where
 f:Full wr bk 81 3 3 Ev
 r:wr.ownsRow 0 T' 2 (.slice ae m0 ce) m0 L0
 z:xO wr T sz P l j
 o:dM (λk=>k=bk\/fi ae=some k\/fi l.1=some k) w wr
section
variable {w:aa}{T' T:TypeId}{sz:Nat}{P:Nat → Value}{bk:Nat}{Ev:Nat → Value}{L0:List Value}{m0:Nat}{ae:Option Addr}{ce:Nat}{l:Sl}{j:Nat}{wr:aa}
theorem vE.MS{w1 w2:aa}{u:Option Addr}{ln J:Nat}{xs:List Value}(y:Full w1 bk 81 3 3 Ev)(hR:w1.ownsRow 0 T' 2 (.slice ae m0 ce) m0 L0)(H:w1.ownsRow 0 T sz (.slice u ln J) ln xs)(W:dM (λk=>k=bk\/fi ae=some k\/fi u=some k) w w1)(G:w1.grownBy w2 none):vE w T' T sz P bk Ev L0 m0 ae ce (u,ln,J) 0 w2:=by
 have i:=λk o=>G.block k o eR;exact⟨y.block (i _ y.lt),dQ hR (λk o=>i k (dP hR k o).2.1),xO.MS (dQ H (λk o=>i k (dP H k o).2.1)),W.iW G⟩
theorem vE.next{w':aa}(h:vE w T' T sz P bk Ev L0 m0 ae ce l j wr)(J:T≠T')(W:(81:TypeId)≠T){j':Nat}(hl:xO w' T sz P l j')(Z:dM (λk=>fi l.1=some k) wr w'):vE w T' T sz P bk Ev L0 m0 ae ce l j' w':=by
 have H:∀k,fi l.1=some k->∃u,wr.heap[k]? = some (.cells u T (0,0)):=λk y=>by
  rcases h.z with⟨_,Y⟩|⟨g,Y,_,_,u,h2,_⟩
  .exact(Y.lt y).2
  rw[Y]at y;have e:g=k:=by injection y
  grind
 refine⟨h.f.block (Z.same h.f.lt (λe=>?_)),dQ h.r (λk y=>Z.same (dP h.r k y).2.1 (λe=>?_)),hl,h.o.trans Z (λk y _=>ah (ah y))⟩
 .obtain⟨u,i⟩:=H _ e;obtain⟨c2,G,_⟩:=h.f;grind
 obtain⟨u,i⟩:=H _ e;obtain⟨_,_,c2,G⟩:=dP h.r k y;grind
def vE.done{N:Int}{f:Nat}{G:Option Addr}{ln H:Nat}(h:vE w T' T sz P bk Ev L0 m0 ae ce (G,ln,H) ln wr)(J:Ev f=.slice ae m0 ce):tz w T' T sz f P bk Ev L0 m0 ae (G,ln,H) N [] (G,ln,H) ae ce wr:=by
 refine⟨h.f.congr (λi hi=>?_),?_,λy W=>(by cases W),⟨xO.all h.z,λk u=>af u⟩,h.o,λk u=>af u⟩
 .unfold eC;grind
 have e:L0++iT (([]:List Sl).map (λy=>(y,N)))=L0:=by unfold iT;simp
 rw[e];exact h.r
end
end F
namespace F
open D
variable {Ev:Nat->Value}{N:Int}{ae ra:Option Addr}{bk ce g i j lc m0 sz u:Nat}{o:Obj}{w wr:aa}{xs:List Value}
def Gy(n:Nat)(N:Int):rowP (n*3) (om N)++[aj N,aj 0,aj 0]=rowP ((n+1)*3) (om N):=by
 have o:om N (n*3)=aj N:=by unfold om;rw[mm]
 have i:om N (n*3+1)=aj 0:=by unfold om;rw[eD]
 have e:om N (n*3+2)=aj 0:=by unfold om;rw[eD]
 grind[rowP,List.range_succ]
def Gx(n:Nat)(N:Int):rowP (n*1) (sR N)++[aj N]=rowP ((n+1)*1) (sR N):=by
 grind[rowP,List.range_succ,sR]
def xO.DM{n c:Nat}(h:xO w 48 3 (om N) (some (ay g 0),n,c) j)(hj:j<n):xO (((w.setCell (ay g (j*3)) (aj N)).setCell (ay g (j*3+1)) (aj 0)).setCell (ay g (j*3+2)) (aj 0)) 48 3 (om N) (some (ay g 0),n,c) (j+1):=by
 rcases h with⟨i,_⟩|⟨g',i,u,W,J⟩
 .grind
 have e:g=g':=by injection i with i;injection i
 subst e;have y:n<=c:=u;have Z:om N (j*3)=aj N:=by unfold om;rw[mm]
 have Y:om N (j*3+1)=aj 0:=by unfold om;rw[eD]
 have H:om N (j*3+2)=aj 0:=by unfold om;rw[eD]
 have o:Full w g 48 (c*3) (j*3) (om N):=J;have:=((o.set ag).set ag).set ag;rw[Z,Y,H]at this;exact ah ⟨g,rfl,u,W,eR⟩
def xO.DL{n c:Nat}(h:xO w 3 1 (sR N) (some (ay g 0),n,c) j)(W:j<n):xO (w.setCell (ay g j) (aj N)) 3 1 (sR N) (some (ay g 0),n,c) (j+1):=by
 rcases h with⟨i,_⟩|⟨g',i,u,J,H⟩
 .grind
 have e:g=g':=by injection i with i;injection i
 subst e;have y:n<=c:=u;have o:Full w g 3 (c*1) (j*1) (sR N):=H;rw[Nat.mul_one j]at o;refine ah ⟨g,rfl,u,J,?_⟩;rw[Nat.mul_one (j+1)];exact o.set ag
theorem vE.DM{w wr:aa}{N:Int}{bk m0 ce g n c j:Nat}{Ev:Nat->Value}{L0:List Value}{ae:Option Addr}(h:vE w 119 48 3 (om N) bk Ev L0 m0 ae ce (some (ay g 0),n,c) j wr)(e:j<n):vE w 119 48 3 (om N) bk Ev L0 m0 ae ce (some (ay g 0),n,c) (j+1) (((wr.setCell (ay g (j*3)) (aj N)).setCell (ay g (j*3+1)) (aj 0)).setCell (ay g (j*3+2)) (aj 0)):=by
 exact h.next ek ek (xO.DM h.z e) (bp (S:=λk=>fi (some ((ay g 0):Addr))=some k) (a:=ay g (j*3+2)) (bp (S:=λk=>fi (some ((ay g 0):Addr))=some k) (a:=ay g (j*3+1)) (bp (S:=λk=>fi (some ((ay g 0):Addr))=some k) (a:=ay g (j*3)) (dw _ _) (af rfl) _) (af rfl) _) (af rfl) _)
theorem vE.DL{w wr:aa}{N:Int}{bk m0 ce g n c j:Nat}{Ev:Nat->Value}{L0:List Value}{ae:Option Addr}(h:vE w 121 3 1 (sR N) bk Ev L0 m0 ae ce (some (ay g 0),n,c) j wr)(e:j<n):vE w 121 3 1 (sR N) bk Ev L0 m0 ae ce (some (ay g 0),n,c) (j+1) (wr.setCell (ay g j) (aj N)):=by
 exact h.next ek ek (xO.DL h.z e) (bp (S:=λk=>fi (some ((ay g 0):Addr))=some k) (a:=ay g j) (dw _ _) (af rfl) _)
def FC{G:aa}{f m:Nat}{y:Array Value}{v:Value}{L:List Value}(hX:wr.heap[u]? = some (.cells y 48 (0,0)))(Z:Full wr bk 81 3 3 Ev)(hR:wr.ownsRow 0 119 2 (.slice ae m ce) m L)(W:(wr.alloc o).grownBy G (Value.slice ae m ce).ownBlock):(G.setCell (ay bk f) v).heap[u]? = some (.cells y 48 (0,0)):=by
 have Y:=ch hX;have H:u≠bk:=λe=>by
  obtain⟨c2,i,_⟩:=Z;grind
 have J:(Value.slice ae m ce).ownBlock≠some u:=λe=>by
  obtain⟨_,_,c2,i⟩:=dP hR u e;grind
 rw[ab _ _ _ _ H,W.block u fH (λe=>J e.symm),av _ _ _ Y];exact hX
def IY{H:aa}{ob:Obj}{G:Option Addr}{J Y:Nat}{Z:Value}(hX:wr.heap[u]? = some ob)(y:fi G≠some u)(i:Ii (wr.alloc o) H G J Y 1 Z):H.heap[u]? = some ob:=by
 have W:=ch hX;rcases i with⟨_,i⟩|⟨_,_,_,_,i⟩
 .rw[i.block u fH (λe=>y (by grind[dF])),av _ _ _ W];exact hX
 rw[i.block u fH (λe=>by cases e),av _ _ _ W];exact hX
def Lk{n:Nat}{L0:List Value}{la:Option Addr}{ln:Nat}(hF:Full w bk 81 3 3 Ev)(h0:Ev 0=aj n)(h1:Ev 1=.slice ae m0 ce)(hR:w.ownsRow 0 119 2 (.slice ae m0 ce) m0 L0)(hL:w.ownsRow 0 48 3 (.slice la ln lc) ln xs)(hn:n<=1000000000)(hm:m0<=100000000)(hl:ln<=100000000): eL 76 #[P0 bk,.slice la ln lc] w λw'=>∃Q x aA aB,Q.length=4/\x.2.1=ln+3/\tz w 119 48 3 1 (om (-((n:Int)+1))) bk (eC Ev 0 (aj ((n:Int)+1))) L0 m0 ae (la,ln,lc) (-((n:Int)+1)) Q x aA aB w':=by
 obtain⟨i0,hi,b2,aW,b8⟩:=info_parts Tryz.Hg;obtain⟨j0,H,c9,bV,bR⟩:=info_parts Tryz.Ao;obtain⟨c0,z0⟩:=hF.cells 0 ag;rw[h0]at c0;obtain⟨N1,aH⟩:∃N1:Int,N1=(n:Int)+1:=⟨_,rfl⟩;obtain⟨N,hN⟩:∃N:Int,N=-N1:=⟨_,rfl⟩;rw[<-aH,<-hN];have cB:IntKind.i64.wrap ((n:Int)+1)=N1:=by rw[fq,dN _ ag];exact aH.symm
 have cC:IntKind.i64.wrap (-N1)=N:=by rw[fq,dN _ ag];exact hN.symm
 change Hid _ at hN;have aY:Full (w.setCell (ay bk 0) (aj N1)) bk 81 3 3 (eC Ev 0 (aj N1)):=hF.eC 0 _;have bC:(w.setCell (ay bk 0) (aj N1)).ownsRow 0 119 2 (.slice ae m0 ce) m0 L0:=dQ hR (λk hk=>ab _ _ _ _ (eU hR hF ek k hk));have b9:(w.setCell (ay bk 0) (aj N1)).ownsRow 0 48 3 (.slice la ln lc) ln xs:=dQ hL (λk hk=>ab _ _ _ _ (eU hL hF ek k hk));have aU:dM (λk=>k=bk\/fi ae=some k\/fi la=some k) w (w.setCell (ay bk 0) (aj N1)):=bp (S:=λk=>k=bk\/fi ae=some k\/fi la=some k) (a:=ay bk 0) (dw _ _) (af (af rfl)) _;have bD:=λk hk=>(dP hL k (eV dF hk)).2.1;have bB:(w.setCell (ay bk 0) (aj N1)).heap.size=w.heap.size:=by simp[World.setCell]
 have bI:(eC Ev 0 (aj N1)) 1=.slice ae m0 ce:=by unfold eC;rw[au ek];exact h1
 have bH:(eC Ev 0 (aj N1)) 0=aj N1:=by unfold eC;rw[bf rfl]
 change Hid _ at aY bC b9 aU bD aH;have HE:=bj (bh bH bI);clear bH bI h0 h1 hF hR hL;generalize eC Ev 0 (aj N1)=W at *;delta eL;go_in;go_wp2_with fail
 have aI:=bl (w.setCell (ay bk 0) (aj N1)) (.cells #[aj N,aj 0,aj 0] 48);have aS:Hid ((w.setCell (ay bk 0) (aj N1)).grownBy ((w.setCell (ay bk 0) (aj N1)).alloc (.cells #[aj N,aj 0,aj 0] 48)) none):=ak _ _ _;generalize (w.setCell (ay bk 0) (aj N1)).alloc (.cells #[aj N,aj 0,aj 0] 48)=w2 at *;generalize w.setCell (ay bk 0) (aj N1)=w1 at *;rw[bB]at aI;obtain⟨Y,aT⟩:∃Y,Y=w.heap.size:=⟨_,rfl⟩;rw[<-aT]at aI ⊢;have cF:w.heap.size<=Y:=ag
 change Hid _ at aI;clear aT;have b4:Hid (vE w 119 48 3 (om N) bk W L0 m0 ae ce (la,ln,lc) 0 w2):=vE.MS aY bC b9 aU aS;clear aY bC b9 aU aS bB z0 c0;go_loopw [5] (λiv wx=>∃j:Nat,j<=ln/\iv=aj j/\Hid (vE w 119 48 3 (om N) bk W L0 m0 ae ce (la,ln,lc) j wx)/\Hid (wx.heap[Y]? = some (.cells #[aj N,aj 0,aj 0] 48 (0,0)))) (λiv _=>ln-(intOf iv).toNat)
 case atStart=>exact⟨0,ag,rfl,b4,aI⟩
 case round=>
  clear b4 aI;obtain⟨j,bQ,rfl,rV,rX⟩:=hrel;have a7:=rV.f.lt;obtain⟨k0,f0⟩:=rV.f.cells 0 ag;obtain⟨k1,f1⟩:=rV.f.cells 1 ag;rw[HE.1]at k0;rw[HE.2]at k1;have x0:dS wr Y 0=some (aj N):=fy rX.out
  have x1:dS wr Y 1=some (aj 0):=fy rX.out
  have x2:dS wr Y 2=some (aj 0):=fy rX.out
  by_cases b7:j<ln
  .obtain⟨Z,hq,hB,c7⟩:=rV.z.place b7;simp only at hq hB c7;subst hq;have b0:(j:Int)<ln:=ag
   obtain⟨⟨v0,q0⟩,p0⟩:=hB.cell (j*3) ag;obtain⟨⟨v1,q1⟩,p1⟩:=hB.cell (j*3+1) ag;obtain⟨⟨v2,q2⟩,p2⟩:=hB.cell (j*3+2) ag;have c6:Hid (vE w 119 48 3 (om N) bk W L0 m0 ae ce (some (ay Z 0),ln,lc) (j+1) (((wr.setCell (ay Z (j*3)) (aj N)).setCell (ay Z (j*3+1)) (aj 0)).setCell (ay Z (j*3+2)) (aj 0))):=rV.DM b7;have aP:Y≠Z:=by have:=bD Z rfl;omega
   have bO:Hid ((((wr.setCell (ay Z (j*3)) (aj N)).setCell (ay Z (j*3+1)) (aj 0)).setCell (ay Z (j*3+2)) (aj 0)).heap[Y]? = some (.cells #[aj N,aj 0,aj 0] 48 (0,0))):=by
    show _=_;rw[ab _ _ _ _ aP,ab _ _ _ _ aP,ab _ _ _ _ aP];exact rX
   clear hB;go_wp2
   go_roundw
   case rel=>exact⟨j+1,ag,iA,c6,bO⟩
   case measure=>simp[intOf];omega
  have b0:¬((j:Int)<ln):=ag
  have c8:ln=j:=ag
  subst c8;have aD:Hid (tz w 119 48 3 1 (om N) bk W L0 m0 ae (la,ln,lc) N [] (la,ln,lc) ae ce wr):=rV.done HE.2;have G:=bj rV.r;have a2:Hid (∀k,(Value.slice ae m0 ce).ownBlock=some k->k≠bk/\k<wr.heap.size):=λk hk=>⟨eU G rV.f ek k hk,(dP G k hk).2.1⟩;clear rV bQ;obtain⟨i,aC⟩:∃i,i=ae:=⟨_,rfl⟩;obtain⟨o,a6⟩:∃o,o=ce:=⟨_,rfl⟩;have aD:Hid (tz w 119 48 3 1 (om N) bk W L0 m0 ae (la,ln,lc) N [] (la,ln,lc) i o wr):=by rw[aC,a6];exact aD
  rw[<-aC,<-a6]at k1 G a2;clear aC a6;go_wp2
  go_cut [] (λwx=>∃(aA:Option Addr) (aB:Nat),Hid (tz w 119 48 3 1 (om N) bk W L0 m0 ae (la,ln,lc) N [(la,ln,lc)] (la,ln,lc) aA aB wx)/\Hid (wx.heap[Y]? = some (.cells #[aj N,aj 0,aj 0] 48 (0,0))))
  case first=>
   go_region_law (refine fD _ rfl (.tmp 35) (.tmp 43) 78 rfl 119 i0 _ 2 32 Tryz.underlying78 hi b2 aW b8 rfl ek i m0 o L0 mB (dQ G (λk h=>av _ _ _ (a2 k h).2)) (ay wr.heap.size 0) 1 1 [.slice la ln lc,aj N] mB rfl (by intro j u H;match j,H with|0,H=>(simp at H;subst H;simp[Addr.add,go_sem])|1,H=>(simp at H;subst H;simp[Addr.add,go_sem])) xI pY ag ek ?_;intro v' w6 ho J a8;have hg:World.grownBy (wr.alloc (.cells #[.slice la ln lc,aj N] 119)) w6 (Value.slice i m0 o).ownBlock:=⟨J.os,J.tape,J.output,J.size,J.block⟩;clear J;obtain⟨Z,cq,rfl⟩:=ee ho ag;have aG:Hid ((Value.slice i m0 o).ownBlock=some Z\/wr.heap.size<=Z):=(by rcases a8 with h|⟨g',h,hl⟩;exact af h.symm;exact ah (by have e:Z=g':=(by injection h);simp at hl;omega));clear a8;have aJ:=bj ho;have aK:=bj hg;have bT:wr.heap.size<w6.heap.size:=(by have h9:=hg.size;simp at h9;omega);have a5:=((hg.block bk fH (λh=>(a2 bk h.symm).1 rfl)).trans (av _ _ _ a7));have d6:dS w6 bk 1=some (.slice i m0 o):=(az (a:=ay bk 1) a5).trans k1;have y6:w6.frozen? (ay bk 1)=false:=(dr (a:=ay bk 1) a5).trans f1;have aR:Hid ((w6.setCell (ay bk 1) (dA Z (m0+1) cq)).heap[Y]? = some (.cells #[aj N,aj 0,aj 0] 48 (0,0))):=FC rX aD.f G hg;clear a5 ho hg)
   all_goals
    go_wp2
    go_meet
    case rel=>exact⟨some (ay Z 0),cq,aD.line (Q:=[]) ek ek ek ek (by have e:L0++iT (([]:List Sl).map (λy=>(y,N)))=L0:=(by unfold iT;simp);rw[e];exact aJ) aK aG,aR⟩
  case rest=>
   obtain⟨bY,bP,b3,aX⟩:=hcut;clear aD G a2 k1 f1 a7 x0 x1 x2 rX;go_wp2
   go_loopw [6,7] (λgv kv wx=>∃(k:Nat) (x:Sl) (Q:List Sl) (aA:Option Addr) (aB:Nat),k<=3/\kv=aj k/\gv=.slice x.1 x.2.1 x.2.2/\Hid (Q.length=k+1/\x.2.1=ln+k/\fi x.1≠some Y)/\Hid (tz w 119 48 3 1 (om N) bk W L0 m0 ae (la,ln,lc) N Q x aA aB wx)/\Hid (wx.heap[Y]? = some (.cells #[aj N,aj 0,aj 0] 48 (0,0)))) (λ_ kv _=>3-(intOf kv).toNat)
   case atStart=>exact⟨0,(la,ln,lc),[(la,ln,lc)],bY,bP,ag,rfl,rfl,⟨rfl,rfl,(λe=>by have:=bD Y e;omega)⟩,b3,aX⟩
   case round=>
    clear b3 aX;obtain⟨k,⟨xa,xn,xc⟩,Q,i,o,cD,rfl,rfl,rQ,rT,rX⟩:=hrel;simp only at rQ;by_cases hk:k<3
    .have cA:(k:Int)<3:=ag
     have aN:Hid (wr.ownsRow 0 48 3 (.slice xa xn xc) xn (rowP (xn*3) (om N))):=rT.x.1;have bE:=bj (λk hk=>(dP aN k hk).2.1);have bX:xn<=100000003:=gp rQ.2.1
     obtain⟨k0,f0⟩:=rT.f.cells 0 ag;have lx:=ch rX;have x0:dS wr Y 0=some (aj N):=fy rX.out
     have x1:dS wr Y 1=some (aj 0):=fy rX.out
     have x2:dS wr Y 2=some (aj 0):=fy rX.out
     go_wp2_with (at_builtin;refine nN rfl (.tmp 52) (.tmp 54) 45 rfl 48 j0 _ 3 24 underlying45 H c9 bV bR rfl ek _ _ _ _ rfl (dQ aN (λk h=>av _ _ _ (bE k h))) (ay wr.heap.size 0) 1 1 [aj N,aj 0,aj 0] rfl rfl ?c1 ?c2 ?c3 ?c4 ?c5 ?_)
     try case c1=>intro j u H;match j,H with|0,H=>(simp at H;subst H;simp[Addr.add,go_sem])|1,H=>(simp at H;subst H;simp[Addr.add,go_sem])|2,H=>(simp at H;subst H;simp[Addr.add,go_sem])
     try case c2=>simp[Value.oneCell']
     try case c3=>unfold maxLen;omega
     try case c4=>omega
     try case c5=>omega
     intro v' w5 ho aM;obtain⟨⟨a1,a0,a3⟩,hv,bF,aO,bG⟩:=rT.more ek ek ek ek (Gy xn N) ho aM;have bU:v'=.slice a1 a0 a3:=hv;simp only at bF aO;subst bU;have a4:=bj bG;have aV:=bj (IY rX rQ.2.2 aM);have aQ:Hid (Q.length=k+1/\a0=ln+(k+1)/\fi a1≠some Y):=⟨rQ.1,(gp rQ.2.1),(λe=>by rcases aO Y e with h|h;exact rQ.2.2 h;omega)⟩;have aL:m0+Q.length<=100000010:=gp rQ.1
     clear ho aM hv bF aO bG aN bE bX x0 x1 x2 rX rT rQ;have G:=bj a4.r;have a2:Hid (∀k,(Value.slice i (m0+Q.length) o).ownBlock=some k->k≠bk/\k<w5.heap.size):=λk hk=>⟨eU G a4.f ek k hk,(dP G k hk).2.1⟩;have a7:=a4.f.lt;obtain⟨k0,f0⟩:=a4.f.cells 0 ag;obtain⟨k1,f1⟩:=a4.f.cells 1 ag;rw[show eC W 1 (.slice i (m0+Q.length) o) 0=aj N1 from(by unfold eC;rw[au ek];exact HE.1)]at k0;rw[show eC W 1 (.slice i (m0+Q.length) o) 1=.slice i (m0+Q.length) o from(by unfold eC;rw[bf rfl])]at k1;obtain⟨mq,a9⟩:∃mq,mq=m0+Q.length:=⟨_,rfl⟩;obtain⟨Lq,aE⟩:∃Lq,Lq=L0++iT (Q.map (λy=>(y,N))):=⟨_,rfl⟩;have bK:=bj (bh a9 aE);rw[<-a9]at k1 G a2 aL;rw[<-aE]at G;clear a9 aE;go_wp2
     go_region_law (refine fD _ rfl (.tmp 60) (.tmp 68) 78 rfl 119 i0 _ 2 32 Tryz.underlying78 hi b2 aW b8 rfl ek i mq o Lq mB (dQ G (λk h=>av _ _ _ (a2 k h).2)) (ay w5.heap.size 0) 1 1 [.slice a1 a0 a3,aj N] mB rfl (by intro j u H;match j,H with|0,H=>(simp at H;subst H;simp[Addr.add,go_sem])|1,H=>(simp at H;subst H;simp[Addr.add,go_sem])) xI pY ag ek ?_;intro v' w6 ho J a8;have hg:World.grownBy (w5.alloc (.cells #[.slice a1 a0 a3,aj N] 119)) w6 (Value.slice i mq o).ownBlock:=⟨J.os,J.tape,J.output,J.size,J.block⟩;clear J;obtain⟨Z,cq,rfl⟩:=ee ho ag;have aG:Hid ((Value.slice i mq o).ownBlock=some Z\/w5.heap.size<=Z):=(by rcases a8 with h|⟨g',h,hl⟩;exact af h.symm;exact ah (by have e:Z=g':=(by injection h);simp at hl;omega));clear a8;have aJ:=bj ho;have aK:=bj hg;have bT:w5.heap.size<w6.heap.size:=(by have h9:=hg.size;simp at h9;omega);have a5:=((hg.block bk fH (λh=>(a2 bk h.symm).1 rfl)).trans (av _ _ _ a7));have d6:=(az (a:=ay bk 1) a5).trans k1;have y6:=(dr (a:=ay bk 1) a5).trans f1;have aR:Hid ((w6.setCell (ay bk 1) (dA Z (mq+1) cq)).heap[Y]? = some (.cells #[aj N,aj 0,aj 0] 48 (0,0))):=FC aV a4.f G hg;clear a5 ho hg)
     all_goals
      have bM:Hid (tz w 119 48 3 1 (om N) bk W L0 m0 ae (la,ln,lc) N (Q++[(a1,a0,a3)]) (a1,a0,a3) (some (ay Z 0)) cq (w6.setCell (ay bk 1) (dA Z (mq+1) cq))):=by
       obtain⟨a9,aE⟩:=bK;subst a9 aE;exact a4.line ek ek ek ek aJ aK aG
      have bZ:Hid ((Q++[(a1,a0,a3)]).length=(k+1)+1/\a0=ln+(k+1)/\fi a1≠some Y):=⟨(by rw[cw];show Q.length+1=_;have:=aQ.1;omega),aQ.2⟩;clear a4 G a2 k1 f1 bK aQ aL a7 aK aJ aG aV;go_wp2
      go_roundw
      case rel=>exact⟨k+1,(a1,a0,a3),Q++[(a1,a0,a3)],some (ay Z 0),cq,ag,iA,rfl,bZ,bM,aR⟩
      case measure=>simp[intOf];omega
    obtain rfl:k=3:=by omega
    go_wp2
    go_end0;obtain⟨q1,q2,_⟩:=rQ;have hn1:=aH.out;have bN:=hN.out;subst bN;subst hn1;exact⟨rfl,Q,(xa,xn,xc),i,o,q1,q2,rT⟩
def Lj{n:Nat}{L0:List Value}{W:Option Addr}{ln:Nat}(hF:Full w bk 81 3 3 Ev)(h0:Ev 0=aj n)(h1:Ev 2=.slice ae m0 ce)(hR:w.ownsRow 0 121 2 (.slice ae m0 ce) m0 L0)(hL:w.ownsRow 0 3 1 (.slice W ln lc) ln xs)(hn:n<=1000000000)(hm:m0<=100000000)(hl:ln<=100000000): eL 78 #[P0 bk,.slice W ln lc] w λw'=>∃Q x aA aC,Q.length=4/\x.2.1=ln+3/\tz w 121 3 1 2 (sR (-((n:Int)+1))) bk (eC Ev 0 (aj ((n:Int)+1))) L0 m0 ae (W,ln,lc) (-((n:Int)+1)) Q x aA aC w':=by
 obtain⟨i0,hi,aY,aU,b4⟩:=info_parts Tryz.Hf;obtain⟨j0,Y,bX,bP,bL⟩:=info_parts Tryz.JT;obtain⟨c0,z0⟩:=hF.cells 0 ag;rw[h0]at c0;obtain⟨N1,aH⟩:∃N1:Int,N1=(n:Int)+1:=⟨_,rfl⟩;obtain⟨N,hN⟩:∃N:Int,N=-N1:=⟨_,rfl⟩;rw[<-aH,<-hN];have bZ:IntKind.i64.wrap ((n:Int)+1)=N1:=by rw[fq,dN _ ag];exact aH.symm
 have c6:IntKind.i64.wrap (-N1)=N:=by rw[fq,dN _ ag];exact hN.symm
 change Hid _ at hN;have aW:Full (w.setCell (ay bk 0) (aj N1)) bk 81 3 3 (eC Ev 0 (aj N1)):=hF.eC 0 _;have b8:(w.setCell (ay bk 0) (aj N1)).ownsRow 0 121 2 (.slice ae m0 ce) m0 L0:=dQ hR (λk hk=>ab _ _ _ _ (eU hR hF ek k hk));have b6:(w.setCell (ay bk 0) (aj N1)).ownsRow 0 3 1 (.slice W ln lc) ln xs:=dQ hL (λk hk=>ab _ _ _ _ (eU hL hF ek k hk));have aT:dM (λk=>k=bk\/fi ae=some k\/fi W=some k) w (w.setCell (ay bk 0) (aj N1)):=bp (S:=λk=>k=bk\/fi ae=some k\/fi W=some k) (a:=ay bk 0) (dw _ _) (af (af rfl)) _;have b9:=λk hk=>(dP hL k (eV dF hk)).2.1;have b7:(w.setCell (ay bk 0) (aj N1)).heap.size=w.heap.size:=by simp[World.setCell]
 have bE:(eC Ev 0 (aj N1)) 2=.slice ae m0 ce:=by unfold eC;rw[au ek];exact h1
 have bD:(eC Ev 0 (aj N1)) 0=aj N1:=by unfold eC;rw[bf rfl]
 change Hid _ at aW b8 b6 aT b9 aH;have HE:=bj (bh bD bE);clear bD bE h0 h1 hF hR hL;generalize eC Ev 0 (aj N1)=J at *;delta eL;go_in;go_wp2_with fail
 have a5:Hid ((w.setCell (ay bk 0) (aj N1)).grownBy (w.setCell (ay bk 0) (aj N1)) none):=aw _ _;obtain⟨w1,aL⟩:∃w1:aa,w1=w.setCell (ay bk 0) (aj N1):=⟨_,rfl⟩;rw[<-aL]at aW b8 b6 aT b7 a5 ⊢;clear aL;obtain⟨w2,aB⟩:∃w2:aa,w2=w1:=⟨_,rfl⟩;rw[<-aB];have a5:Hid (w1.grownBy w2 none):=eV aB a5
 clear aB;have b2:=bj trivial;have b1:Hid (vE w 121 3 1 (sR N) bk J L0 m0 ae ce (W,ln,lc) 0 w2):=vE.MS aW b8 b6 aT a5;clear aW b8 b6 aT a5 b7 z0 c0;go_loopw [4] (λiv wx=>∃j:Nat,j<=ln/\iv=aj j/\Hid (vE w 121 3 1 (sR N) bk J L0 m0 ae ce (W,ln,lc) j wx)/\Hid (True)) (λiv _=>ln-(intOf iv).toNat)
 case atStart=>exact⟨0,ag,rfl,b1,b2⟩
 case round=>
  clear b1 b2;obtain⟨j,bK,rfl,rV,rX⟩:=hrel;have a7:=rV.f.lt;obtain⟨k0,f0⟩:=rV.f.cells 0 ag;obtain⟨k1,f1⟩:=rV.f.cells 2 ag;rw[HE.1]at k0;rw[HE.2]at k1;by_cases b3:j<ln
  .obtain⟨gq,hq,hB,bV⟩:=rV.z.place b3;simp only at hq hB bV;subst hq;have aX:(j:Int)<ln:=ag
   obtain⟨⟨v0,q0⟩,p0⟩:=hB.cell j ag;have bU:Hid (vE w 121 3 1 (sR N) bk J L0 m0 ae ce (some (ay gq 0),ln,lc) (j+1) (wr.setCell (ay gq j) (aj N))):=rV.DL b3;clear hB;go_wp2
   go_roundw
   case rel=>exact⟨j+1,ag,iA,bU,trivial⟩
   case measure=>simp[intOf];omega
  have aX:¬((j:Int)<ln):=ag
  have bW:ln=j:=ag
  subst bW;have aJ:Hid (tz w 121 3 1 2 (sR N) bk J L0 m0 ae (W,ln,lc) N [] (W,ln,lc) ae ce wr):=rV.done HE.2;have H:=bj rV.r;have a0:Hid (∀k,(Value.slice ae m0 ce).ownBlock=some k->k≠bk/\k<wr.heap.size):=λk hk=>⟨eU H rV.f ek k hk,(dP H k hk).2.1⟩;clear rV bK;obtain⟨i,aD⟩:∃i,i=ae:=⟨_,rfl⟩;obtain⟨o,a6⟩:∃o,o=ce:=⟨_,rfl⟩;have aJ:Hid (tz w 121 3 1 2 (sR N) bk J L0 m0 ae (W,ln,lc) N [] (W,ln,lc) i o wr):=by rw[aD,a6];exact aJ
  rw[<-aD,<-a6]at k1 H a0;clear aD a6;go_wp2
  go_cut [] (λwx=>∃(aA:Option Addr) (aC:Nat),Hid (tz w 121 3 1 2 (sR N) bk J L0 m0 ae (W,ln,lc) N [(W,ln,lc)] (W,ln,lc) aA aC wx)/\Hid (True))
  case first=>
   go_region_law (refine fD _ rfl (.tmp 32) (.tmp 40) 79 rfl 121 i0 _ 2 32 Tryz.underlying79 hi aY aU b4 rfl ek i m0 o L0 mB (dQ H (λk h=>av _ _ _ (a0 k h).2)) (ay wr.heap.size 0) 1 1 [.slice W ln lc,aj N] mB rfl (by intro j u Y;match j,Y with|0,Y=>(simp at Y;subst Y;simp[Addr.add,go_sem])|1,Y=>(simp at Y;subst Y;simp[Addr.add,go_sem])) xI pY ag ek ?_;intro v' w6 ho G a8;have hg:World.grownBy (wr.alloc (.cells #[.slice W ln lc,aj N] 121)) w6 (Value.slice i m0 o).ownBlock:=⟨G.os,G.tape,G.output,G.size,G.block⟩;clear G;obtain⟨gq,cq,rfl⟩:=ee ho ag;have aG:Hid ((Value.slice i m0 o).ownBlock=some gq\/wr.heap.size<=gq):=(by rcases a8 with h|⟨g',h,hl⟩;exact af h.symm;exact ah (by have e:gq=g':=(by injection h);simp at hl;omega));clear a8;have aI:=bj ho;have aK:=bj hg;have bN:wr.heap.size<w6.heap.size:=(by have h9:=hg.size;simp at h9;omega);have a3:=((hg.block bk fH (λh=>(a0 bk h.symm).1 rfl)).trans (av _ _ _ a7));have d6:dS w6 bk 2=some (.slice i m0 o):=(az (a:=ay bk 2) a3).trans k1;have y6:w6.frozen? (ay bk 2)=false:=(dr (a:=ay bk 2) a3).trans f1;clear a3 ho hg)
   all_goals
    go_wp2
    go_meet
    case rel=>exact⟨some (ay gq 0),cq,aJ.line (Q:=[]) ek ek ek ek (by have e:L0++iT (([]:List Sl).map (λy=>(y,N)))=L0:=(by unfold iT;simp);rw[e];exact aI) aK aG,trivial⟩
  case rest=>
   obtain⟨bS,bJ,aZ,aV⟩:=hcut;clear aJ H a0 k0 f0 k1 f1 a7 rX;go_wp2
   go_loopw [5,6] (λgv kv wx=>∃(k:Nat) (x:Sl) (Q:List Sl) (aA:Option Addr) (aC:Nat),k<=3/\kv=aj k/\gv=.slice x.1 x.2.1 x.2.2/\Hid (Q.length=k+1/\x.2.1=ln+k/\True)/\Hid (tz w 121 3 1 2 (sR N) bk J L0 m0 ae (W,ln,lc) N Q x aA aC wx)/\Hid (True)) (λ_ kv _=>3-(intOf kv).toNat)
   case atStart=>exact⟨0,(W,ln,lc),[(W,ln,lc)],bS,bJ,ag,rfl,rfl,⟨rfl,rfl,trivial⟩,aZ,aV⟩
   case round=>
    clear aZ aV;obtain⟨k,⟨xa,xn,xc⟩,Q,i,o,c7,rfl,rfl,rQ,rT,rX⟩:=hrel;simp only at rQ;by_cases hk:k<3
    .have bY:(k:Int)<3:=ag
     have aQ:Hid (wr.ownsRow 0 3 1 (.slice xa xn xc) xn (rowP (xn*1) (sR N))):=rT.x.1;have bA:=bj (λk hk=>(dP aQ k hk).2.1);have bR:xn<=100000003:=gp rQ.2.1
     obtain⟨k0,f0⟩:=rT.f.cells 0 ag;rw[show eC J 2 (.slice i (m0+Q.length) o) 0=aj N1 from(by unfold eC;rw[au ek];exact HE.1)]at k0;go_wp2_with (at_builtin;refine nN rfl (.tmp 49) (.tmp 55) 54 rfl 3 j0 _ 1 8 Tryz.vn Y bX bP bL rfl ek _ _ _ _ rfl (dQ aQ (λk h=>av _ _ _ (bA k h))) (ay wr.heap.size 0) 1 1 [aj N] rfl rfl ?c1 ?c2 ?c3 ?c4 ?c5 ?_)
     try case c1=>intro j u Y;match j,Y with|0,Y=>(simp at Y;subst Y;simp[Addr.add,go_sem])
     try case c2=>simp[Value.oneCell']
     try case c3=>unfold maxLen;omega
     try case c4=>omega
     try case c5=>omega
     intro v' w5 ho b0;obtain⟨⟨a2,Z,a1⟩,hv,bB,b5,bC⟩:=rT.more ek ek ek ek (Gx xn N) (by simp only[Nat.mul_one];exact ho) b0;have bO:v'=.slice a2 Z a1:=hv;simp only at bB b5;subst bO;have a4:=bj bC;have aS:Hid (Q.length=k+1/\Z=ln+(k+1)/\True):=⟨rQ.1,(gp rQ.2.1),trivial⟩;have aM:m0+Q.length<=100000010:=gp rQ.1
     clear ho b0 hv bB b5 bC aQ bA bR k0 f0 rX rT rQ;have H:=bj a4.r;have a0:Hid (∀k,(Value.slice i (m0+Q.length) o).ownBlock=some k->k≠bk/\k<w5.heap.size):=λk hk=>⟨eU H a4.f ek k hk,(dP H k hk).2.1⟩;have a7:=a4.f.lt;obtain⟨k0,f0⟩:=a4.f.cells 0 ag;obtain⟨k1,f1⟩:=a4.f.cells 2 ag;rw[show eC J 2 (.slice i (m0+Q.length) o) 0=aj N1 from(by unfold eC;rw[au ek];exact HE.1)]at k0;rw[show eC J 2 (.slice i (m0+Q.length) o) 2=.slice i (m0+Q.length) o from(by unfold eC;rw[bf rfl])]at k1;obtain⟨mq,a9⟩:∃mq,mq=m0+Q.length:=⟨_,rfl⟩;obtain⟨Lq,aE⟩:∃Lq,Lq=L0++iT (Q.map (λy=>(y,N))):=⟨_,rfl⟩;have bF:=bj (bh a9 aE);rw[<-a9]at k1 H a0 aM;rw[<-aE]at H;clear a9 aE;go_wp2
     go_region_law (refine fD _ rfl (.tmp 61) (.tmp 69) 79 rfl 121 i0 _ 2 32 Tryz.underlying79 hi aY aU b4 rfl ek i mq o Lq mB (dQ H (λk h=>av _ _ _ (a0 k h).2)) (ay w5.heap.size 0) 1 1 [.slice a2 Z a1,aj N] mB rfl (by intro j u Y;match j,Y with|0,Y=>(simp at Y;subst Y;simp[Addr.add,go_sem])|1,Y=>(simp at Y;subst Y;simp[Addr.add,go_sem])) xI pY ag ek ?_;intro v' w6 ho G a8;have hg:World.grownBy (w5.alloc (.cells #[.slice a2 Z a1,aj N] 121)) w6 (Value.slice i mq o).ownBlock:=⟨G.os,G.tape,G.output,G.size,G.block⟩;clear G;obtain⟨gq,cq,rfl⟩:=ee ho ag;have aG:Hid ((Value.slice i mq o).ownBlock=some gq\/w5.heap.size<=gq):=(by rcases a8 with h|⟨g',h,hl⟩;exact af h.symm;exact ah (by have e:gq=g':=(by injection h);simp at hl;omega));clear a8;have aI:=bj ho;have aK:=bj hg;have bN:w5.heap.size<w6.heap.size:=(by have h9:=hg.size;simp at h9;omega);have a3:=((hg.block bk fH (λh=>(a0 bk h.symm).1 rfl)).trans (av _ _ _ a7));have d6:=(az (a:=ay bk 2) a3).trans k1;have y6:=(dr (a:=ay bk 2) a3).trans f1;clear a3 ho hg)
     all_goals
      have bH:Hid (tz w 121 3 1 2 (sR N) bk J L0 m0 ae (W,ln,lc) N (Q++[(a2,Z,a1)]) (a2,Z,a1) (some (ay gq 0)) cq (w6.setCell (ay bk 2) (dA gq (mq+1) cq))):=by
       obtain⟨a9,aE⟩:=bF;subst a9 aE;exact a4.line ek ek ek ek aI aK aG
      have bT:Hid ((Q++[(a2,Z,a1)]).length=(k+1)+1/\Z=ln+(k+1)/\True):=⟨(by rw[cw];show Q.length+1=_;have:=aS.1;omega),aS.2⟩;clear a4 H a0 k0 k1 f0 f1 bF aS aM a7 aK aI aG;go_wp2
      go_roundw
      case rel=>exact⟨k+1,(a2,Z,a1),Q++[(a2,Z,a1)],some (ay gq 0),cq,ag,iA,rfl,bT,bH,trivial⟩
      case measure=>simp[intOf];omega
    obtain rfl:k=3:=by omega
    go_wp2
    go_end0;obtain⟨q1,q2,_⟩:=rQ;have hn1:=aH.out;have bI:=hN.out;subst bI;subst hn1;exact⟨rfl,Q,(xa,xn,xc),i,o,q1,q2,rT⟩
theorem Bv:∀{E:List (Sl×Int)} {k:Nat} {x:Sl×Int},E[k]? = some x->(iT E)[k*2]? = some (qo x.1)/\(iT E)[k*2+1]? = some (aj x.2)
 | [],k,x,h=>by grind
 | y :: E,0,x,h=>by
  have e:y=x:=gG h;subst e;exact⟨rfl,rfl⟩
 | y :: E,k+1,x,h=>by
  have:=Bv (E:=E) (k:=k) (x:=x) eR;have i:iT (y :: E)=qo y.1 :: aj y.2 :: iT E:=by unfold iT;simp
  grind
def mu{n cap:Nat}{e:TypeId}{x:Value}(h:w.ownsRow i e sz (dA g n cap) n xs)(hx:xs[j]? = some x):w.cell? (ay g j)=some x:=by
 rcases h.2 with⟨h,_⟩|⟨g',J,o,y,_,H,_,_,W,G⟩
 .cases h
 cases y;have u:j<n*sz:=by
  have:=(cf.1 hx).1;have:=h.1;omega
 have:o[j]? = some x:=by
  rw[<-G,dO,bf u]at hx;simpa using hx
 simp[World.cell?,H,this]
def Bf{T':TypeId}{c k:Nat}{E:List (Sl×Int)}{x:Sl×Int}(h:w.ownsRow 0 T' 2 (.slice ra E.length c) E.length (iT E))(e:E[k]? = some x):∃b,ra=some (ay b 0)/\b<w.heap.size/\w.cell? (ay b (k*2))=some (.slice x.1.1 x.1.2.1 x.1.2.2)/\w.cell? (ay b (k*2+1))=some (aj x.2):=by
 have i:=(cf.1 e).1;obtain⟨b,J,y⟩:=ee h ag;injection y with G _ u;subst G u;obtain⟨o,H⟩:=Bv e;exact⟨b,rfl,(dP h b rfl).2.1,mu h o,mu h H⟩
def It{T:TypeId}{P:Nat->Value}{x:Sl}(h:Rd w T sz P x)(hi:i<x.2.1)(W:sz≠0):∃b,x.1=some (ay b 0)/\b<w.heap.size/\∀j,j<sz->w.cell? (ay b (i*sz+j))=some (P (i*sz+j)):=by
 obtain⟨b,y,G⟩:=ee h ag;have o:Value.slice x.1 x.2.1 x.2.2=dA b x.2.1 y:=G;injection o with u _ J;have e:x=(some (ay b 0),x.2.1,x.2.2):=by rw[<-u]
 refine⟨b,u,(h.lt (k:=b) (jx u)).1,λj H=>?_⟩;rw[e]at h;refine AY h ?_;have:(i+1)*sz<=x.2.1*sz:=Nat.mul_le_mul_right _ hi;grind
def JC{ca cb:Nat}{rb:Option Addr}{E J:List (Sl×Int)}(hF:Full w bk 81 3 3 Ev)(h1:Ev 1=.slice ra E.length ca)(h2:Ev 2=.slice rb J.length cb)(hE:w.ownsRow 0 119 2 (.slice ra E.length ca) E.length (iT E))(hJ:w.ownsRow 0 121 2 (.slice rb J.length cb) J.length (iT J))(aD:∀x,x∈E->Rd w 48 3 (om x.2) x.1/\x.1.2.1<=1000000000)(a6:∀x,x∈J->Rd w 3 1 (sR x.2) x.1/\x.1.2.1<=1000000000)(le:E.length<=1000000000)(lj:J.length<=1000000000): dD 34 #[P0 bk] w (.bool true) λw'=>w.grownBy w' none:=by
 obtain⟨c1,_⟩:=hF.cells 1 ag;obtain⟨c2,_⟩:=hF.cells 2 ag;rw[h1]at c1;rw[h2]at c2;have Z:=hF.lt;have HE:Hid (∀k x,E[k]? = some x->(∃b,ra=some (ay b 0)/\b<w.heap.size/\w.cell? (ay b (k*2))=some (.slice x.1.1 x.1.2.1 x.1.2.2)/\w.cell? (ay b (k*2+1))=some (aj x.2))/\Rd w 48 3 (om x.2) x.1/\x.1.2.1<=1000000000):=λk x hk=>⟨Bf hE hk,aD x (eh hk)⟩;have HJ:Hid (∀k x,J[k]? = some x->(∃b,rb=some (ay b 0)/\b<w.heap.size/\w.cell? (ay b (k*2))=some (.slice x.1.1 x.1.2.1 x.1.2.2)/\w.cell? (ay b (k*2+1))=some (aj x.2))/\Rd w 3 1 (sR x.2) x.1/\x.1.2.1<=1000000000):=λk x hk=>⟨Bf hJ hk,a6 x (eh hk)⟩;clear hE hJ aD a6 h1 h2 hF;obtain⟨ne,a1⟩:∃ne,ne=E.length:=⟨_,rfl⟩;obtain⟨Y,a2⟩:∃Y,Y=J.length:=⟨_,rfl⟩;rw[<-a1]at c1 le;rw[<-a2]at c2 lj;have aG:=bj a1;have aE:=bj a2;clear a1 a2;delta dD;go_in;go_wp2_with fail
 go_loopw [3] (λkv wr=>∃k:Nat,k<=ne/\kv=aj k/\Hid (w.grownBy wr none)) (λkv _=>ne-(intOf kv).toNat)
 case atStart=>exact⟨0,ag,rfl,aw _ _⟩
 case round=>
  obtain⟨k,hk,rfl,y⟩:=hrel;have d1:=(bd y (a:=ay bk 1) Z).1.trans c1;have lr:=y.size;by_cases aF:k<ne
  .obtain⟨x,hx⟩:∃x,E[k]? = some x:=⟨_,bz (by rw[<-aG.out];exact aF)⟩;obtain⟨⟨b,rfl,b1,b2,b3⟩,b4,b5⟩:=HE k x hx;obtain⟨⟨xa,G,xc⟩,N⟩:=x;simp only at b2 b3 b4 b5;have a3:=bj b4;have e1:wr.cell? (ay b (k*2+1))=some (aj N):=(bd y (a:=ay b (k*2+1)) b1).1.trans b3;have lb:b<wr.heap.size:=ag
   have a0:=bj b2;clear b2 b3 b4 hx;have aC:(k:Int)<ne:=ag
   go_wp2_with fail
   have a7:=bl wr (.cells #[aj N,aj 0,aj 0] 48);have H:Hid (w.grownBy (wr.alloc (.cells #[aj N,aj 0,aj 0] 48)) none):=ax y _;generalize wr.alloc (.cells #[aj N,aj 0,aj 0] 48)=w2 at *;generalize wr.heap.size=xb at *;clear d1 e1 y;have aB:=bj a7;clear a7;go_loopw [5] (λiv wx=>∃i:Nat,i<=G/\iv=aj i/\Hid (w.grownBy wx none)/\Hid (wx.heap[xb]? = some (.cells #[aj N,aj 0,aj 0] 48 (0,0)))) (λiv _=>G-(intOf iv).toNat)
   case atStart=>exact⟨0,ag,rfl,H,aB⟩
   case round=>
    clear H aB;obtain⟨i,hi,rfl,y,hX⟩:=hrel;have d1:=(bd y (a:=ay bk 1) Z).1.trans c1;have e0:wr.cell? (ay b (k*2))=some (.slice xa G xc):=(bd y (a:=ay b (k*2)) b1).1.trans a0;have lr:=y.size
    have lx:=ch hX;have x0:wr.cell? (ay xb 0)=some (aj N):=fy hX.out
    have x1:wr.cell? (ay xb 1)=some (aj 0):=fy hX.out
    have x2:wr.cell? (ay xb 2)=some (aj 0):=fy hX.out
    by_cases a4:i<G
    .obtain⟨u,hq,q1,q2⟩:=It a3 (i:=i) a4 ek;simp only at hq;subst hq;have y0:wr.cell? (ay u (i*3))=some (aj N):=by
      have:=q2 0 ag;rw[Nat.add_zero]at this;rw[(bd y (a:=ay u (i*3)) q1).1,this];unfold om;rw[mm]
     have y1:wr.cell? (ay u (i*3+1))=some (aj 0):=by
      rw[(bd y (a:=ay u (i*3+1)) q1).1,q2 1 ag];unfold om;rw[eD]
     have y2:wr.cell? (ay u (i*3+2))=some (aj 0):=by
      rw[(bd y (a:=ay u (i*3+2)) q1).1,q2 2 ag];unfold om;rw[eD]
     have W:(i:Int)<G:=ag
     clear q2;go_wp2_with fail
     go_quiet (fail)
     go_wp2_with fail
     go_roundw
     case rel=>exact⟨i+1,ag,iA,⟨y.os,y.tape,y.output,y.size,y.block⟩,hX⟩
     case measure=>simp[intOf];omega
    have W:¬((i:Int)<G):=ag
    go_wp2_with fail
    go_roundw
    case rel=>exact⟨k+1,ag,iA,y⟩
    case measure=>simp[intOf];omega
  have aC:¬((k:Int)<ne):=ag
  clear lr HE;have aA:=y;go_wp2_with fail
  clear d1;go_loopw [6] (λkv wx=>∃k:Nat,k<=Y/\kv=aj k/\Hid (w.grownBy wx none)) (λkv _=>Y-(intOf kv).toNat)
  case atStart=>exact⟨0,ag,rfl,aA⟩
  case round=>
   clear aA;obtain⟨q,hq,rfl,H⟩:=hrel;have d2:=(bd H (a:=ay bk 2) Z).1.trans c2;by_cases aH:q<Y
   .obtain⟨x,hx⟩:∃x,J[q]? = some x:=⟨_,bz (by rw[<-aE.out];exact aH)⟩;obtain⟨⟨b,rfl,b1,b2,b3⟩,b4,b5⟩:=HJ q x hx;obtain⟨⟨xa,G,xc⟩,N⟩:=x;simp only at b2 b3 b4 b5;have a3:=bj b4;have a0:=bj (bh b2 b3);clear b2 b3 b4 hx;have a5:(q:Int)<Y:=ag
    have a9:=H;go_wp2_with fail
    clear d2;go_loopw [7] (λiv wx=>∃i:Nat,i<=G/\iv=aj i/\Hid (w.grownBy wx none)) (λiv _=>G-(intOf iv).toNat)
    case atStart=>exact⟨0,ag,rfl,a9⟩
    case round=>
     clear a9;obtain⟨i,hi,rfl,o⟩:=hrel;have d2:=(bd o (a:=ay bk 2) Z).1.trans c2;have e0:=(bd o (a:=ay b (q*2)) b1).1.trans a0.1;have e1:=(bd o (a:=ay b (q*2+1)) b1).1.trans a0.2;have lr:=o.size
     by_cases a4:i<G
     .obtain⟨u,a8,q1,q2⟩:=It a3 (i:=i) a4 ek;simp only at a8;subst a8;have y0:wr.cell? (ay u i)=some (aj N):=by
       have:=q2 0 ag;rw[Nat.add_zero,Nat.mul_one]at this;rw[(bd o (a:=ay u i) q1).1,this];rfl
      have W:(i:Int)<G:=ag
      clear q2;go_wp2_with fail
      go_quiet (fail)
      go_wp2_with fail
      go_roundw
      case rel=>exact⟨i+1,ag,iA,⟨o.os,o.tape,o.output,o.size,o.block⟩⟩
      case measure=>simp[intOf];omega
     have W:¬((i:Int)<G):=ag
     go_wp2_with fail
     go_roundw
     case rel=>exact⟨q+1,ag,iA,o⟩
     case measure=>simp[intOf];omega
   have a5:¬((q:Int)<Y):=ag
   go_wp2_with fail
   go_ret;exact⟨rfl,H⟩
