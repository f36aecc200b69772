import Derived.Test.YtnjiinbhbjpfkaaGreatDoorKW
set_option maxRecDepth 100000
set_option maxHeartbeats 0
set_option linter.all false
namespace Go.Proofs.YtnjiinbhbjpfkaaGreatDoor
open Go.RowKit Go.Proofs.Tryz
section
def FL(w w':World)(ao:Option Addr)(n cap m:Nat)(v':Value):Prop:=(v'=.slice ao (n+m) cap/\w.grownBy w' (Value.slice ao n cap).ownBlock)\/∃g c,v'=.slice (some ⟨g,0,none⟩) (n+m) c/\w.heap.size<=g/\w.grownBy w' none
theorem tU{P:Program}(w:World)(t ty e:TypeId)(i:TypeInfo)(z:Value)(size bytes:Nat)(ht:P.underlying t=some (.slice e))(hi:P.info? e=some i)(hz:i.zero=some z)(y:i.size=size)(a3:i.bytes=bytes)(a1:z.cells.size=size)(a4:0<size)(ao:Option Addr)(n cap:Nat)(xs:List Value)(a0:w.ownsRow 0 e size (.slice ao n cap) n xs)(ad:Addr)(m c:Nat)(o:List Value)(hl:o.length=m*size)(H:∀j u,o[j]? = some u->w.cell? (ad.add j)=some u)(h1:∀u∈o,u.oneCell'=true)(a2:n+m<=maxLen)(G:(n+m)*bytes<=140737488355328)(hm:0<m): ∃J w',(Builtin.append_ #[t,t] ty #[.slice ao n cap,.slice (some ad) m c]).run P w=.ok J w'/\w'.ownsRow 0 e size J (n+m) (xs++o)/\FL w w' ao n cap m J:=by
 have Z:∀(J:Value) (w':World),w'.ownsRow w.heap.size e size J (n+m) (xs++o)->∃g c,J=.slice (some ⟨g,0,none⟩) (n+m) c/\w.heap.size<=g:=λJ w' h=>by
  obtain⟨g,c',rfl⟩:=dM h (by omega);exact⟨g,c',rfl,(dA h g rfl).1⟩
 rcases id a0 with⟨a7,⟨hv,h0⟩|⟨g,c',a8,hv,_,h2,h3,h4,h5,h6⟩⟩
 .injection hv with e1 e2 e3;subst e1 e2 e3;obtain rfl:xs=[]:=List.eq_nil_of_length_eq_zero (by simpa using a7);obtain⟨J,w',W,r1,r2,_⟩:=run_append_own (P:=P) w w.heap.size t ty e i z size bytes ht hi hz y a3 a1 a4 (.slice none 0 0) 0 [] (dJ w _ e size) ad m c o hl H h1 a2 G (bj _);obtain⟨g,c',rfl,hg⟩:=Z J w' r1;exact⟨_,w',W,gw r1 (dc _),ab ⟨g,c',rfl,hg,r2⟩⟩
 injection hv with e1 e2 e3;subst e1 e3;by_cases Y:n+m<=cap
 .obtain⟨J,w',hr,r1,r2,_⟩:=run_append_own (P:=P) w 0 t ty e i z size bytes ht hi hz y a3 a1 a4 _ n xs a0 ad m c o hl H h1 a2 G (dc _);refine⟨J,w',hr,r1,ag ⟨?_,r2⟩⟩;subst y;have a6:=run_append_room (P:=P) w t ty e i ht hi g n cap a8 h2 ad m c o hl H h1 Y (by rw[hl,h5,<-Nat.add_mul];exact Nat.mul_le_mul_right _ Y);rw[hr]at a6;injection a6
 have a9:∀j u,xs[j]? = some u->w.cell? ((⟨g,0,none⟩:Addr).add j)=some u:=λj u hu=>by
  have hj:j<n*size:=by
   have:=(bu.1 hu).1;omega
  rw[<-h6,dh,aj hj]at hu;have a5:w.cell? ⟨g,j,none⟩=some u:=by
   simp only[World.cell?,h2];simpa using hu
  cases j with
  | zero=>simpa[Addr.add] using a5
  | succ j=>simpa[Addr.add] using a5
 obtain⟨J,w',W,r1,r2⟩:=run_append_arg_grows (P:=P) w t ty e i z size bytes ht hi hz y a3 a1 a4 ⟨g,0,none⟩ n cap xs a7 a9 ad m c o hl H (by omega) a2 G;obtain⟨g',c',rfl,hg⟩:=Z J w' r1;exact⟨_,w',W,gw r1 (dc _),ab ⟨g',c',rfl,hg,r2⟩⟩
theorem lV{P:Program}{w:World}{ops:Array Oper}{rest:List Oper}{o:Oper}{a:Act}{Q:Exit->Act->World->Prop}(a1:o.guard=none)(s x:Operand)(t:TypeId)(ho:o.op=.call { callee:=.builtin .append,args:=#[s,x],argTypes:=#[t,t] })(e:TypeId)(i:TypeInfo)(z:Value)(size bytes:Nat)(ht:P.underlying t=some (.slice e))(hi:P.info? e=some i)(hz:i.zero=some z)(H:i.size=size)(a0:i.bytes=bytes)(a2:z.cells.size=size)(a4:0<size)(Z:Option Addr)(n cap:Nat)(xs:List Value)(hs:a.eval s=.slice Z n cap)(W:w.ownsRow 0 e size (.slice Z n cap) n xs)(ad:Addr)(m c:Nat)(y:List Value)(hx:a.eval x=.slice (some ad) m c)(hl:y.length=m*size)(J:∀j u,y[j]? = some u->w.cell? (ad.add j)=some u)(h1:∀u∈y,u.oneCell'=true)(a3:n+m<=maxLen)(G:(n+m)*bytes<=140737488355328)(hm:0<m)(h:∀Y w',w'.ownsRow 0 e size Y (n+m) (xs++y)->FL w w' Z n cap m Y->wpList P ops Q rest (a.put o.dst Y) w'):wpList P ops Q (o :: rest) a w:=by
 refine wpList_plain a1 λK hK=>?_;obtain⟨Y,w',hr,h2,h3⟩:=tU (P:=P) w t o.type e i z size bytes ht hi hz H a0 a2 a4 Z n cap xs W ad m c y hl J h1 a3 G hm;unfold Oper.wp execOp;simp only[ho,resolve,invoke,builtin,Sem.run_bind,Sem.run_pure,Result.andThen_ok,List.map_toArray,List.map_cons,List.map_nil,hs,hx,hr];exact hK _ _ (h Y w' h2 h3)
theorem wU{P:Program}(w:World)(dT sT ty u:TypeId)(g y J:Nat)(sp:Option Addr)(e Y sz:Nat)(o:Array Value)(t:TypeId)(G:List Value)(hu:P.underlying dT=some (.slice u))(hs:(P.info? u).map (·.size)=some sz)(hg:w.heap[g]? = some (.cells o t (0,0)))(a1:e<=y)(hn:G.length=e*sz)(H:sp=none->G=[])(Z:∀a,sp=some a->∀j v,G[j]? = some v->w.cell? (a.add j)=some v)(a0:G.length<=o.size)(h1:∀v∈G,v.oneCell'=true): (Builtin.copy_ #[dT,sT] ty #[.slice (some ⟨g,0,none⟩) y J,.slice sp e Y]).run P w=.ok (goInt e) (w.setRow g (G++o.toList.drop G.length).toArray):=by
 have W:=run_storeCells_at P g 0 t G 0 o w hg (by simpa using a0) h1;have hm:Nat.min e y=e:=Nat.min_eq_left a1
 cases hq:P.info? u with
 | none=>simp[hq]at hs
 | some i=>
  cases sp with
  | none=>
   have hc:=H rfl;subst hc;simp[Builtin.copy_,run_underlying hu,Builtin.lenOf,Builtin.firstCells,sizeOf,typeInfo,hq,hm,storeCells];exact(setRow_self w g o t (0,0) hg).symm
  | some a=>
   have hl:=run_loadCells_list (P:=P) w a G (Z a rfl);rw[hn]at hl;simp at W;simp[Builtin.copy_,run_underlying hu,Builtin.lenOf,Builtin.firstCells,sizeOf,typeInfo,hq,(by simpa[hq] using hs),hm,hl,W]
theorem sf{P:Program}{w:World}{ops:Array Oper}{rest:List Oper}{o:Oper}{a:Act}{Q:Exit->Act->World->Prop}(a1:o.guard=none)(d s:Operand)(dT sT:TypeId)(ho:o.op=.call { callee:=.builtin .copy,args:=#[d,s],argTypes:=#[dT,sT] })(i:TypeId)(sz:Nat)(hu:P.underlying dT=some (.slice i))(a2:(P.info? i).map (·.size)=some sz)(g u G e J:Nat)(sp:Option Addr)(hd:a.eval d=.slice (some ⟨g,0,none⟩) u G)(hs:a.eval s=.slice sp e J)(y:Array Value)(t:TypeId)(hg:w.heap[g]? = some (.cells y t (0,0)))(H:List Value)(a3:e<=u)(hn:H.length=e*sz)(W:sp=none->H=[])(Z:∀a,sp=some a->∀j v,H[j]? = some v->w.cell? (a.add j)=some v)(a0:H.length<=y.size)(h1:∀v∈H,v.oneCell'=true)(h:wpList P ops Q rest (a.put o.dst (goInt e)) (w.setRow g (H++y.toList.drop H.length).toArray)):wpList P ops Q (o :: rest) a w:=by
 refine wpList_plain a1 λK hK=>?_;unfold Oper.wp;simp[execOp,ho,resolve,invoke,builtin,hd,hs,wU (P:=P) w dT sT o.type i g u G sp e J sz y t H hu a2 hg a3 hn W Z a0 h1,Result.andThen];exact hK _ _ h
namespace F
abbrev Sl:=Option Addr×Nat×Nat
def oL(x:Sl):Value:=.slice x.1 x.2.1 x.2.2
def mG(N:Int)(j:Nat):Value:=.int .i64 (if j % 3=0 then N else 0)
def qE(N:Int)(_:Nat):Value:=.int .i64 N
def Rd(w:World)(T:TypeId)(sz:Nat)(P:Nat->Value)(x:Sl):Prop:=w.ownsRow 0 T sz (oL x) x.2.1 (D.rowP (x.2.1*sz) P)
theorem Rd.fr{w w':World}{T:TypeId}{sz:Nat}{P:Nat->Value}{x:Sl}(h:Rd w T sz P x)(i:∀k,eO x.1=some k->w'.heap[k]? = w.heap[k]?):Rd w' T sz P x:=dD h (λk e=>i k (by rw[<-dr x.1 x.2.1 x.2.2];exact e))
theorem Rd.lt{w:World}{T:TypeId}{sz:Nat}{P:Nat->Value}{x:Sl}(h:Rd w T sz P x){k:Nat}(i:eO x.1=some k):k<w.heap.size/\∃e,w.heap[k]? = some (.cells e T (0,0)):=(dA h k (by unfold oL;rw[dr];exact i)).2
def gQ(E:List (Sl×Int)):List Value:=E.flatMap (λx=>[oL x.1,.int .i64 x.2])
def wm(n:Nat)(a b:Value)(j:Nat):Value:=if j=0 then .int .i64 (n:Int) else if j=1 then a else if j=2 then b else .int .i64 0
end F
end
namespace F
open D
theorem Tryz.Fg:(prog.info? 119).map (λi=>(i.zero,i.size,i.bytes))=some (some (.agg #[.slice none 0 0,.int .i64 0]),2,32):=by kernel_rfl
theorem Tryz.Ff:(prog.info? 121).map (λi=>(i.zero,i.size,i.bytes))=some (some (.agg #[.slice none 0 0,.int .i64 0]),2,32):=by kernel_rfl
theorem Tryz.Hq:(prog.info? 3).map (λi=>(i.zero,i.size,i.bytes))=some (some (.int .i64 0),1,8):=by kernel_rfl
theorem Tryz.tS:prog.underlying 54=some (.slice 3):=by kernel_rfl
theorem Tryz.underlying78:prog.underlying 78=some (.slice 119):=by kernel_rfl
theorem Tryz.underlying79:prog.underlying 79=some (.slice 121):=by kernel_rfl
section
variable {w w' : World} {T : TypeId} {sz : Nat} {P : Nat → Value}
theorem kH(n:Nat)(P:Nat->Value):(rowP n P).length=n:=by unfold rowP;simp
theorem lh{n j:Nat}(P:Nat->Value)(h:j<n):(rowP n P)[j]? = some (P j):=by unfold rowP;simp[h]
theorem rd_mk{g n c:Nat}(u:jB w g T (c*sz))(hn:n<=c)(y:c<=maxLen)(hx:∀j,j<n*sz->w.cell? ⟨g,j,none⟩=some (P j)):Rd w T sz P (some ⟨g,0,none⟩,n,c):=by
 obtain⟨e,o,G⟩:=u;refine⟨kH _ _,ab ⟨g,c,e,rfl,dc _,o,hn,y,G,?_⟩⟩;apply List.ext_getElem?
 intro j;show(e.toList.take (n*sz))[j]? = (rowP (n*sz) P)[j]?;by_cases i:j<n*sz
 .rw[lh P i,dh,aj i];have:=hx j i;simp only[World.cell?,o]at this;simpa using this
 rw[cw (by simp;omega),cw (by rw[kH];omega)]
theorem zE{g n c j:Nat}(h:Rd w T sz P (some ⟨g,0,none⟩,n,c))(G:j<n*sz):w.cell? ⟨g,j,none⟩=some (P j):=by
 rcases h.2 with⟨o,_⟩|⟨g',Y,u,o,_,W,_,_,Z,J⟩
 .cases o
 have e:oL (some ⟨g,0,none⟩,n,c)=.slice (some ⟨g,0,none⟩) n c:=rfl;rw[e]at o;injection o with i _ _;injection i with i;injection i with i;subst i;have H:=lh (n:=n*sz) P G;rw[<-J,dh,aj G]at H;simp only[World.cell?,W];simpa using H
theorem EB{ad:Option Addr}{n c:Nat}{xs:List Value}(h:w.ownsRow 0 T sz (.slice ad n c) n xs)(hn:n≠0):∃g,ad=some ⟨g,0,none⟩/\jB w g T (c*sz)/\n<=c/\c<=maxLen:=by
 rcases h.2 with⟨_,i⟩|⟨g,W,e,i,_,y,u,o,J,_⟩
 .exact ch i hn
 injection i with H _ G;subst G;exact⟨g,H,⟨e,y,J⟩,u,o⟩
theorem vh{x:Sl}(h:Rd w T sz P x){k:Nat}(i:eO x.1=some k):x.1=some ⟨k,0,none⟩/\jB w k T (x.2.2*sz)/\x.2.1<=x.2.2/\x.2.2<=maxLen:=by
 rcases h.2 with⟨o,_⟩|⟨g,H,u,o,_,Y,W,J,h5,_⟩
 .have:x.1=none:=by unfold oL at o;injection o
  rw[this]at i;cases i
 have y:Value.slice x.1 x.2.1 x.2.2=.slice (some ⟨g,0,none⟩) x.2.1 H:=o;injection y with G _ Z;rw[G]at i;have e:g=k:=by injection i
 subst e;rw[Z];exact⟨G,⟨u,Y,h5⟩,W,J⟩
theorem GV{x y:Sl}(h:Rd w T sz P y)(hx:Rd w T sz P x){k:Nat}(W:eO y.1=some k)(o:eO x.1=some k)(hs:sz≠0)(a0:y.2.1<=x.2.1){n:Nat}(hn:x.2.1<=n)(u:Rd w' T sz P (x.1,n,x.2.2)):Rd w' T sz P y:=by
 obtain⟨J,⟨c1,a2,a3⟩,a4,_⟩:=vh h W;obtain⟨b1,⟨c2,i,G⟩,_,_⟩:=vh hx o;rw[a2]at i;injection i with i;injection i with i _ _;have H:y.2.2=x.2.2:=by
  rw[<-i,a3]at G;exact Nat.eq_of_mul_eq_mul_right (by omega) G
 obtain⟨_,d2,_,Z⟩:=vh (x:=(x.1,n,x.2.2)) u (k:=k) (by exact o);have e:y=(some ⟨k,0,none⟩,y.2.1,x.2.2):=by
  obtain⟨y1,y2,y3⟩:=y;simp only at J H ⊢;rw[J,H]
 rw[e];rw[b1]at u;exact rd_mk d2 (by omega) Z (λj Y=>zE u (dm Y (Nat.mul_le_mul_right _ (by omega))))
end
def wo(w:World)(T:TypeId)(sz:Nat)(P:Nat->Value)(l:Sl)(j:Nat):Prop:=(l.2.1=0/\Rd w T sz P l)\/∃g,l.1=some ⟨g,0,none⟩/\l.2.1<=l.2.2/\l.2.2<=maxLen/\Full w g T (l.2.2*sz) (j*sz) P
theorem wo.all{w:World}{T:TypeId}{sz:Nat}{P:Nat->Value}{l:Sl}(h:wo w T sz P l l.2.1):Rd w T sz P l:=by
 rcases h with⟨_,h⟩|⟨g,y,H,G,u⟩
 .exact h
 have e:l=(some ⟨g,0,none⟩,l.2.1,l.2.2):=by rw[<-y]
 rw[e];obtain⟨o,k1,k2,J⟩:=id u;exact rd_mk ⟨o,k1,k2⟩ H G (λi hi=>u.cell i hi)
theorem wo.Ki{w:World}{T:TypeId}{sz:Nat}{P:Nat->Value}{l:Sl}{xs:List Value}(h:w.ownsRow 0 T sz (oL l) l.2.1 xs):wo w T sz P l 0:=by
 by_cases e:l.2.1=0
 .refine ag ⟨e,?_⟩;have G:xs=rowP (l.2.1*sz) P:=by
   have:=h.1;rw[e,Nat.zero_mul]at this ⊢;rw[List.eq_nil_of_length_eq_zero this];rfl
  unfold Rd;rw[<-G];exact h
 obtain⟨g,y,u,o,i⟩:=EB h e;refine ab ⟨g,y,o,i,?_⟩;rw[Nat.zero_mul];exact u.full P
theorem wo.place{w:World}{T:TypeId}{sz j:Nat}{P:Nat->Value}{l:Sl}(h:wo w T sz P l j)(o:j<l.2.1):∃g,l.1=some ⟨g,0,none⟩/\jB w g T (l.2.2*sz)/\j<l.2.2:=by
 rcases h with⟨i,h⟩|⟨g,i,y,u,e,k1,k2,_⟩
 .omega
 exact⟨g,i,⟨e,k1,k2⟩,by omega⟩
theorem Ih{T':TypeId}{bk f m ce g c:Nat}{ae:Option Addr}{x:Sl}{N:Int}{L:List Value}{Ev:Nat->Value}{o:Obj}{wr i:World}(Y:(81:TypeId)≠T')(hf:f<3)(G:Full wr bk 81 3 3 Ev)(hR:wr.ownsRow 0 T' 2 (.slice ae m ce) m L)(Z:i.ownsRow 0 T' 2 (.slice (some ⟨g,0,none⟩) (m+1) c) (m+1) (L++[oL x,.int .i64 N]))(u:(wr.alloc o).grownBy i (Value.slice ae m ce).ownBlock)(hm:(Value.slice ae m ce).ownBlock=some g\/wr.heap.size<=g): Full (i.setCell ⟨bk,f,none⟩ (.slice (some ⟨g,0,none⟩) (m+1) c)) bk 81 3 3 (ep Ev f (.slice (some ⟨g,0,none⟩) (m+1) c))/\(i.setCell ⟨bk,f,none⟩ (.slice (some ⟨g,0,none⟩) (m+1) c)).ownsRow 0 T' 2 (.slice (some ⟨g,0,none⟩) (m+1) c) (m+1) (L++[oL x,.int .i64 N])/\dy (λk=>k=bk\/eO ae=some k) wr (i.setCell ⟨bk,f,none⟩ (.slice (some ⟨g,0,none⟩) (m+1) c)):=by
 have H:=G.lt;have W:Full i bk 81 3 3 Ev:=(G.block (ak _ _ _ H)).block (u.block bk (by simp;omega) (λe=>(λk y=>eL hR G Y k y) bk e.symm rfl));refine⟨W.ep f _,dD Z (λk y=>af _ _ _ _ (eL Z W Y k y)),bm ?_ (ag (ag rfl)) _⟩;refine dy.trans (S1:=λk=>eO ae=some k) (gF (dk _ wr) _) ⟨u.os,u.tape,u.output,u.size,λk y J=>u.block k y (λe=>J (by rw[<-dr ae m ce];exact e.symm))⟩ (λk h _=>ab h)
structure ue(w:World) (T' T:TypeId) (sz f:Nat) (P:Nat->Value) (bk:Nat) (Ev:Nat->Value) (L0:List Value) (m0:Nat) (ae0:Option Addr) (l:Sl) (N:Int) (Q:List Sl) (x:Sl) (ae:Option Addr) (ce:Nat) (wr:World):Prop where
 f:Full wr bk 81 3 3 (ep Ev f (.slice ae (m0+Q.length) ce))
 r:wr.ownsRow 0 T' 2 (.slice ae (m0+Q.length) ce) (m0+Q.length) (L0++gQ (Q.map (λy=>(y,N))))
 q:∀y,y∈Q->Rd wr T sz P y/\y.2.1<=x.2.1/\∀k,eO y.1=some k->eO l.1=some k\/w.heap.size<=k
 x:Rd wr T sz P x/\∀k,eO x.1=some k->eO l.1=some k\/w.heap.size<=k
 o:dy (λk=>k=bk\/eO ae0=some k\/eO l.1=some k) w wr
 a:∀k,eO ae=some k->eO ae0=some k\/w.heap.size<=k
section
variable {w : World} {T' T : TypeId} {sz f : Nat} {P : Nat → Value} {bk : Nat} {Ev : Nat → Value} {L0 : List Value} {m0 : Nat} {ae0 : Option Addr} {l : Sl} {N : Int} {Q : List Sl} {x : Sl} {ae : Option Addr} {ce : Nat} {wr : World}
theorem Bo(Q:List Sl)(x:Sl)(N:Int):gQ ((Q++[x]).map (λy=>(y,N)))=gQ (Q.map (λy=>(y,N)))++[oL x,.int .i64 N]:=by unfold gQ;simp
theorem ue.line{o:Obj}{Y:World}{g c:Nat}(h:ue w T' T sz f P bk Ev L0 m0 ae0 l N Q x ae ce wr)(a1:(81:TypeId)≠T')(Z:T≠T')(a0:(81:TypeId)≠T)(hf:f<3)(ho:Y.ownsRow 0 T' 2 (.slice (some ⟨g,0,none⟩) (m0+Q.length+1) c) (m0+Q.length+1) (L0++gQ (Q.map (λy=>(y,N)))++[oL x,.int .i64 N]))(hg:(wr.alloc o).grownBy Y (Value.slice ae (m0+Q.length) ce).ownBlock)(W:(Value.slice ae (m0+Q.length) ce).ownBlock=some g\/wr.heap.size<=g): ue w T' T sz f P bk Ev L0 m0 ae0 l N (Q++[x]) x (some ⟨g,0,none⟩) c (Y.setCell ⟨bk,f,none⟩ (.slice (some ⟨g,0,none⟩) (m0+Q.length+1) c)):=by
 obtain⟨h1,h2,h3⟩:=Ih a1 hf h.f h.r ho hg W;have a3:=h.o.size;have J:∀y,Rd wr T sz P y->Rd (Y.setCell ⟨bk,f,none⟩ (.slice (some ⟨g,0,none⟩) (m0+Q.length+1) c)) T sz P y:=λy G=>G.fr (λk u=>h3.same (G.lt u).1 (λhs=>by
  obtain⟨a2,i⟩:=(G.lt u).2;rcases hs with rfl|hs
  .obtain⟨c2,H,_⟩:=h.f;rw[H]at i;injection i with i;injection i with _ i _;exact a0 i
  obtain⟨_,_,c2,H⟩:=dA h.r k (by rw[dr];exact hs);rw[H]at i;injection i with i;injection i with _ i _;exact Z i.symm))
 have hl:m0+(Q++[x]).length=m0+Q.length+1:=by rw[bo];rfl
 refine⟨?_,?_,λy G=>?_,⟨J x h.x.1,h.x.2⟩,h.o.trans h3 (λk u hl=>?_),λk u=>?_⟩
 .rw[hl];refine h1.congr (λj hj=>?_);unfold ep;by_cases e:j=f
  .rw[aj e,aj e]
  rw[aa e,aa e,aa e]
 .rw[hl,Bo,<-dY];exact h2
 .rcases di.1 G with G|G
  .exact⟨J y (h.q y G).1,(h.q y G).2⟩
  have e:=dL.1 G;rw[e];exact⟨J x h.x.1,bj _,h.x.2⟩
 .rcases u with u|u
  .exact ag u
  rcases h.a k u with h4|h4
  .exact ab (ag h4)
  omega
 have e:g=k:=by injection u
 subst e;rcases W with W|W
 .exact h.a g (by rw[<-dr ae (m0+Q.length) ce];exact W)
 right;omega
theorem ue.more{o:Obj}{J:World}{v':Value}{Y:List Value}(h:ue w T' T sz f P bk Ev L0 m0 ae0 l N Q x ae ce wr)(aC:(81:TypeId)≠T')(a4:T≠T')(a5:(81:TypeId)≠T)(hs:sz≠0)(a2:rowP (x.2.1*sz) P++Y=rowP ((x.2.1+1)*sz) P)(ho:J.ownsRow 0 T sz v' (x.2.1+1) (rowP (x.2.1*sz) P++Y))(G:FL (wr.alloc o) J x.1 x.2.1 x.2.2 1 v'): ∃H:Sl,v'=oL H/\H.2.1=x.2.1+1/\(∀k,eO H.1=some k->eO x.1=some k\/wr.heap.size<k)/\ue w T' T sz f P bk Ev L0 m0 ae0 l N Q H ae ce J:=by
 rw[a2]at ho;have aB:=h.o.size;have a3:∀k,eO x.1=some k->k≠bk/\eO ae≠some k:=λk i=>by
  obtain⟨aA,u⟩:=(h.x.1.lt i).2;refine⟨λe=>?_,λe=>?_⟩
  .obtain⟨c2,a1,_⟩:=h.f;rw[e,a1]at u;injection u with u;injection u with _ u _;exact a5 u
  obtain⟨_,_,c2,a1⟩:=dA h.r k (by rw[dr];exact e);rw[a1]at u;injection u with u;injection u with _ u _;exact a4 u.symm
 have a0:∀H:Sl,v'=oL H->H.2.1=x.2.1+1->(∀k,eO H.1=some k->eO x.1=some k\/wr.heap.size<k)->dy (λk=>eO x.1=some k) wr J->(∀y,y∈Q->Rd J T sz P y)->ue w T' T sz f P bk Ev L0 m0 ae0 l N Q H ae ce J:=by
  intro H e1 e2 e3 Z hq;have a9:Rd J T sz P H:=by
   unfold Rd;rw[<-e1,e2];exact ho
  refine⟨h.f.block (Z.same h.f.lt (λe=>(a3 _ e).1 rfl)),dD h.r (λk i=>Z.same (dA h.r k i).2.1 (λe=>(a3 k e).2 (by rw[<-dr ae (m0+Q.length) ce];exact i))),λy W=>⟨hq y W,?_,(h.q y W).2.2⟩,⟨a9,λk i=>?_⟩,h.o.trans Z (λk i hl=>?_),h.a⟩
  .have:=(h.q y W).2.1;omega
  .rcases e3 k i with h4|h4
   .exact h.x.2 k h4
   right;omega
  rcases h.x.2 k i with h4|h4
  .exact ab (ab h4)
  omega
 rcases G with⟨rfl,G⟩|⟨g,c,rfl,a7,G⟩
 .rw[dr]at G;have Z:=dy.trans (S1:=λk=>eO x.1=some k) (gF (dk _ wr) _) ⟨G.os,G.tape,G.output,G.size,λk i a6=>G.block k i (λe=>a6 e.symm)⟩ (λk h _=>h);refine⟨(x.1,x.2.1+1,x.2.2),rfl,rfl,λk i=>ag i,a0 (x.1,x.2.1+1,x.2.2) rfl rfl (λk i=>ag i) Z (λy W=>?_)⟩;obtain⟨y1,y2,y3⟩:=h.q y W;by_cases u:∃k,eO y.1=some k/\eO x.1=some k
  .obtain⟨k,k1,k2⟩:=u;exact GV y1 h.x.1 k1 k2 hs y2 (Nat.le_succ _) ho
  exact y1.fr (λk i=>Z.same (y1.lt i).1 (λe=>u ⟨k,i,e⟩))
 have Z:dy (λk=>eO x.1=some k) wr J:=dy.trans (S1:=λ_=>False) (gF (dk _ wr) _) (dU G) (λk h _=>h.elim);have a8:dy (λ_=>False) wr J:=dy.trans (S1:=λ_=>False) (gF (dk _ wr) _) (dU G) (λk h _=>h.elim);have hz:wr.heap.size<g:=by simp at a7;omega
 have e3:∀k,eO (some (⟨g,0,none⟩:Addr))=some k->eO x.1=some k\/wr.heap.size<k:=λk i=>by
  have e:g=k:=by injection i
  right;omega
 exact⟨(some ⟨g,0,none⟩,x.2.1+1,c),rfl,rfl,e3,a0 (some ⟨g,0,none⟩,x.2.1+1,c) rfl rfl e3 Z (λy W=>(h.q y W).1.fr (λk i=>a8.same ((h.q y W).1.lt i).1 (λe=>e)))⟩
end
structure uf(w:World) (T' T:TypeId) (sz:Nat) (P:Nat->Value) (bk:Nat) (Ev:Nat->Value) (L0:List Value) (m0:Nat) (ae:Option Addr) (ce:Nat) (l:Sl) (j:Nat) (wr:World):Prop where
 f:Full wr bk 81 3 3 Ev
 r:wr.ownsRow 0 T' 2 (.slice ae m0 ce) m0 L0
 z:wo wr T sz P l j
 o:dy (λk=>k=bk\/eO ae=some k\/eO l.1=some k) w wr
section
variable {w : World} {T' T : TypeId} {sz : Nat} {P : Nat → Value} {bk : Nat} {Ev : Nat → Value} {L0 : List Value} {m0 : Nat} {ae : Option Addr} {ce : Nat} {l : Sl} {j : Nat} {wr : World}
theorem uf.Ki{w1 w2:World}{u:Option Addr}{ln J:Nat}{xs:List Value}(y:Full w1 bk 81 3 3 Ev)(hR:w1.ownsRow 0 T' 2 (.slice ae m0 ce) m0 L0)(H:w1.ownsRow 0 T sz (.slice u ln J) ln xs)(W:dy (λk=>k=bk\/eO ae=some k\/eO u=some k) w w1)(G:w1.grownBy w2 none):uf w T' T sz P bk Ev L0 m0 ae ce (u,ln,J) 0 w2:=by
 have i:=λk o=>G.block k o (by intro e;cases e);exact⟨y.block (i _ y.lt),dD hR (λk o=>i k (dA hR k o).2.1),wo.Ki (dD H (λk o=>i k (dA H k o).2.1)),W.gR G⟩
theorem uf.next{w':World}(h:uf w T' T sz P bk Ev L0 m0 ae ce l j wr)(J:T≠T')(W:(81:TypeId)≠T){j':Nat}(hl:wo w' T sz P l j')(Z:dy (λk=>eO l.1=some k) wr w'):uf w T' T sz P bk Ev L0 m0 ae ce l j' w':=by
 have H:∀k,eO l.1=some k->∃u,wr.heap[k]? = some (.cells u T (0,0)):=λk y=>by
  rcases h.z with⟨_,Y⟩|⟨g,Y,_,_,u,h2,_⟩
  .exact(Y.lt y).2
  rw[Y]at y;have e:g=k:=by injection y
  exact⟨u,e▸h2⟩
 refine⟨h.f.block (Z.same h.f.lt (λe=>?_)),dD h.r (λk y=>Z.same (dA h.r k y).2.1 (λe=>?_)),hl,h.o.trans Z (λk y _=>ab (ab y))⟩
 .obtain⟨u,i⟩:=H _ e;obtain⟨c2,G,_⟩:=h.f;rw[G]at i;injection i with i;injection i with _ i _;exact W i
 obtain⟨u,i⟩:=H _ e;obtain⟨_,_,c2,G⟩:=dA h.r k y;rw[G]at i;injection i with i;injection i with _ i _;exact J i.symm
theorem uf.done{N:Int}{f:Nat}{G:Option Addr}{ln H:Nat}(h:uf w T' T sz P bk Ev L0 m0 ae ce (G,ln,H) ln wr)(J:Ev f=.slice ae m0 ce):ue w T' T sz f P bk Ev L0 m0 ae (G,ln,H) N [] (G,ln,H) ae ce wr:=by
 refine⟨h.f.congr (λi hi=>?_),?_,λy W=>(by cases W),⟨wo.all h.z,λk u=>ag u⟩,h.o,λk u=>ag u⟩
 .unfold ep;by_cases e:i=f
  .rw[aj e,e,J];rfl
  rw[aa e]
 have e:L0++gQ (([]:List Sl).map (λy=>(y,N)))=L0:=by unfold gQ;simp
 rw[e];exact h.r
end
end F
namespace F
open D
theorem ED(n:Nat)(N:Int):rowP (n*3) (mG N)++[.int .i64 N,.int .i64 0,.int .i64 0]=rowP ((n+1)*3) (mG N):=by
 have o:mG N (n*3)=.int .i64 N:=by unfold mG;rw[aj (by omega)]
 have i:mG N (n*3+1)=.int .i64 0:=by unfold mG;rw[aa (by omega)]
 have e:mG N (n*3+2)=.int .i64 0:=by unfold mG;rw[aa (by omega)]
 unfold rowP;rw[show(n+1)*3=n*3+1+1+1 by omega,eA,eA,eA];simp[o,i,e]
theorem EC(n:Nat)(N:Int):rowP (n*1) (qE N)++[.int .i64 N]=rowP ((n+1)*1) (qE N):=by
 unfold rowP;rw[show(n+1)*1=n*1+1 by omega,eA];simp[qE]
theorem wo.Cg{w:World}{N:Int}{g n c j:Nat}(h:wo w 48 3 (mG N) (some ⟨g,0,none⟩,n,c) j)(hj:j<n):wo (((w.setCell ⟨g,j*3,none⟩ (.int .i64 N)).setCell ⟨g,j*3+1,none⟩ (.int .i64 0)).setCell ⟨g,j*3+2,none⟩ (.int .i64 0)) 48 3 (mG N) (some ⟨g,0,none⟩,n,c) (j+1):=by
 rcases h with⟨i,_⟩|⟨g',i,u,W,J⟩
 .have G:n=0:=i;omega
 have e:g=g':=by injection i with i;injection i
 subst e;have y:n<=c:=u;have Z:mG N (j*3)=.int .i64 N:=by unfold mG;rw[aj (by omega)]
 have Y:mG N (j*3+1)=.int .i64 0:=by unfold mG;rw[aa (by omega)]
 have H:mG N (j*3+2)=.int .i64 0:=by unfold mG;rw[aa (by omega)]
 have o:Full w g 48 (c*3) (j*3) (mG N):=J;have:=((o.set (by omega)).set (by omega)).set (by omega);rw[Z,Y,H]at this;exact ab ⟨g,rfl,u,W,by rw[show(j+1)*3=j*3+1+1+1 by omega];exact this⟩
theorem wo.Cf{w:World}{N:Int}{g n c j:Nat}(h:wo w 3 1 (qE N) (some ⟨g,0,none⟩,n,c) j)(W:j<n):wo (w.setCell ⟨g,j,none⟩ (.int .i64 N)) 3 1 (qE N) (some ⟨g,0,none⟩,n,c) (j+1):=by
 rcases h with⟨i,_⟩|⟨g',i,u,J,H⟩
 .have G:n=0:=i;omega
 have e:g=g':=by injection i with i;injection i
 subst e;have y:n<=c:=u;have o:Full w g 3 (c*1) (j*1) (qE N):=H;rw[Nat.mul_one j]at o;refine ab ⟨g,rfl,u,J,?_⟩;rw[Nat.mul_one (j+1)];exact o.set (by show j<c*1;omega)
theorem uf.Cg{w wr:World}{N:Int}{bk m0 ce g n c j:Nat}{Ev:Nat->Value}{L0:List Value}{ae:Option Addr}(h:uf w 119 48 3 (mG N) bk Ev L0 m0 ae ce (some ⟨g,0,none⟩,n,c) j wr)(e:j<n):uf w 119 48 3 (mG N) bk Ev L0 m0 ae ce (some ⟨g,0,none⟩,n,c) (j+1) (((wr.setCell ⟨g,j*3,none⟩ (.int .i64 N)).setCell ⟨g,j*3+1,none⟩ (.int .i64 0)).setCell ⟨g,j*3+2,none⟩ (.int .i64 0)):=by
 exact h.next (by decide) (by decide) (wo.Cg h.z e) (bm (S:=λk=>eO (some (⟨g,0,none⟩:Addr))=some k) (a:=⟨g,j*3+2,none⟩) (bm (S:=λk=>eO (some (⟨g,0,none⟩:Addr))=some k) (a:=⟨g,j*3+1,none⟩) (bm (S:=λk=>eO (some (⟨g,0,none⟩:Addr))=some k) (a:=⟨g,j*3,none⟩) (dk _ _) (ag rfl) _) (ag rfl) _) (ag rfl) _)
theorem uf.Cf{w wr:World}{N:Int}{bk m0 ce g n c j:Nat}{Ev:Nat->Value}{L0:List Value}{ae:Option Addr}(h:uf w 121 3 1 (qE N) bk Ev L0 m0 ae ce (some ⟨g,0,none⟩,n,c) j wr)(e:j<n):uf w 121 3 1 (qE N) bk Ev L0 m0 ae ce (some ⟨g,0,none⟩,n,c) (j+1) (wr.setCell ⟨g,j,none⟩ (.int .i64 N)):=by
 exact h.next (by decide) (by decide) (wo.Cf h.z e) (bm (S:=λk=>eO (some (⟨g,0,none⟩:Addr))=some k) (a:=⟨g,j,none⟩) (dk _ _) (ag rfl) _)
theorem DW{wr G:World}{o:Obj}{bk f m ce u:Nat}{y:Array Value}{v:Value}{Ev:Nat->Value}{ae:Option Addr}{L:List Value}(hX:wr.heap[u]? = some (.cells y 48 (0,0)))(Z:Full wr bk 81 3 3 Ev)(hR:wr.ownsRow 0 119 2 (.slice ae m ce) m L)(W:(wr.alloc o).grownBy G (Value.slice ae m ce).ownBlock):(G.setCell ⟨bk,f,none⟩ v).heap[u]? = some (.cells y 48 (0,0)):=by
 have Y:=bz hX;have H:u≠bk:=λe=>by
  obtain⟨c2,i,_⟩:=Z;rw[e,i]at hX;injection hX with hX;injection hX with _ hX _;exact ch hX (by decide)
 have J:(Value.slice ae m ce).ownBlock≠some u:=λe=>by
  obtain⟨_,_,c2,i⟩:=dA hR u e;rw[i]at hX;injection hX with hX;injection hX with _ hX _;exact ch hX (by decide)
 rw[af _ _ _ _ H,W.block u (by simp;omega) (λe=>J e.symm),ak _ _ _ Y];exact hX
theorem Gs{wr H:World}{o ob:Obj}{G:Option Addr}{J Y u:Nat}{Z:Value}(hX:wr.heap[u]? = some ob)(y:eO G≠some u)(i:FL (wr.alloc o) H G J Y 1 Z):H.heap[u]? = some ob:=by
 have W:=bz hX;rcases i with⟨_,i⟩|⟨_,_,_,_,i⟩
 .rw[i.block u (by simp;omega) (λe=>y (by rw[<-dr G J Y];exact e.symm)),ak _ _ _ W];exact hX
 rw[i.block u (by simp;omega) (λe=>by cases e),ak _ _ _ W];exact hX
theorem IW{bk n m0 ce:Nat}{ae:Option Addr}{Ev:Nat->Value}{L0 xs:List Value}{la:Option Addr}{ln lc:Nat}{w:World}(hF:Full w bk 81 3 3 Ev)(h0:Ev 0=.int .i64 n)(h1:Ev 1=.slice ae m0 ce)(hR:w.ownsRow 0 119 2 (.slice ae m0 ce) m0 L0)(hL:w.ownsRow 0 48 3 (.slice la ln lc) ln xs)(hn:n<=1000000000)(hm:m0<=100000000)(hl:ln<=100000000): Calls prog 76 #[P0 bk,.slice la ln lc] w λe w'=>e=.returned (.tuple #[])/\∃Q x aA aB,Q.length=4/\x.2.1=ln+3/\ue w 119 48 3 1 (mG (-((n:Int)+1))) bk (ep Ev 0 (.int .i64 ((n:Int)+1))) L0 m0 ae (la,ln,lc) (-((n:Int)+1)) Q x aA aB w':=by
 obtain⟨i0,hi,b2,aW,b8⟩:=info_parts Tryz.Fg;obtain⟨j0,H,c9,bV,bR⟩:=info_parts Tryz.yP;obtain⟨c0,z0⟩:=hF.cells 0 (by omega);rw[h0]at c0;obtain⟨N1,aH⟩:∃N1:Int,N1=(n:Int)+1:=⟨_,rfl⟩;obtain⟨N,hN⟩:∃N:Int,N=-N1:=⟨_,rfl⟩;rw[<-aH,<-hN];have cB:IntKind.i64.wrap ((n:Int)+1)=N1:=by rw[bl,bd _ (by omega)];exact aH.symm
 have cC:IntKind.i64.wrap (-N1)=N:=by rw[bl,bd _ (by omega)];exact hN.symm
 have bS:=az hN;clear hN;have aY:Full (w.setCell ⟨bk,0,none⟩ (.int .i64 N1)) bk 81 3 3 (ep Ev 0 (.int .i64 N1)):=hF.ep 0 _;have bC:(w.setCell ⟨bk,0,none⟩ (.int .i64 N1)).ownsRow 0 119 2 (.slice ae m0 ce) m0 L0:=dD hR (λk hk=>af _ _ _ _ (eL hR hF (by decide) k hk));have b9:(w.setCell ⟨bk,0,none⟩ (.int .i64 N1)).ownsRow 0 48 3 (.slice la ln lc) ln xs:=dD hL (λk hk=>af _ _ _ _ (eL hL hF (by decide) k hk));have aU:dy (λk=>k=bk\/eO ae=some k\/eO la=some k) w (w.setCell ⟨bk,0,none⟩ (.int .i64 N1)):=bm (S:=λk=>k=bk\/eO ae=some k\/eO la=some k) (a:=⟨bk,0,none⟩) (dk _ _) (ag (ag rfl)) _;have bD:=λk hk=>(dA hL k (by rw[dr];exact hk)).2.1;have bB:(w.setCell ⟨bk,0,none⟩ (.int .i64 N1)).heap.size=w.heap.size:=by simp[World.setCell]
 have bI:(ep Ev 0 (.int .i64 N1)) 1=.slice ae m0 ce:=by unfold ep;rw[aa (by decide)];exact h1
 have bH:(ep Ev 0 (.int .i64 N1)) 0=.int .i64 N1:=by unfold ep;rw[aj rfl]
 have bA:=az aY;have b1:=az bC;have aZ:=az b9;have b5:=az aU;have bJ:=az bD;have HE:=az (ay bH bI);have bL:=az aH;clear aY bC b9 aU bD bH bI aH h0 h1 hF hR hL;generalize ep Ev 0 (.int .i64 N1)=W at *;go_in;go_wp2_with fail
 have aI:=bf (w.setCell ⟨bk,0,none⟩ (.int .i64 N1)) (.cells #[.int .i64 N,.int .i64 0,.int .i64 0] 48);have aS:Hid ((w.setCell ⟨bk,0,none⟩ (.int .i64 N1)).grownBy ((w.setCell ⟨bk,0,none⟩ (.int .i64 N1)).alloc (.cells #[.int .i64 N,.int .i64 0,.int .i64 0] 48)) none):=ah _ _ _;generalize (w.setCell ⟨bk,0,none⟩ (.int .i64 N1)).alloc (.cells #[.int .i64 N,.int .i64 0,.int .i64 0] 48)=w2 at *;generalize w.setCell ⟨bk,0,none⟩ (.int .i64 N1)=w1 at *;rw[bB]at aI;obtain⟨Y,aT⟩:∃Y,Y=w.heap.size:=⟨_,rfl⟩;rw[<-aT]at aI ⊢;have cF:w.heap.size<=Y:=by omega
 have b6:=az aI;clear aI aT;have b4:Hid (uf w 119 48 3 (mG N) bk W L0 m0 ae ce (la,ln,lc) 0 w2):=uf.Ki bA b1 aZ b5 aS;clear bA b1 aZ b5 aS bB z0 c0;go_loopw [5] (λiv wx=>∃j:Nat,j<=ln/\iv=.int .i64 j/\Hid (uf w 119 48 3 (mG N) bk W L0 m0 ae ce (la,ln,lc) j wx)/\Hid (wx.heap[Y]? = some (.cells #[.int .i64 N,.int .i64 0,.int .i64 0] 48 (0,0)))) (λiv _=>ln-(intOf iv).toNat)
 case atStart=>exact⟨0,by omega,rfl,b4,b6⟩
 case round=>
  clear b4 b6;obtain⟨j,bQ,rfl,rV,rX⟩:=hrel;have a7:=rV.f.lt;obtain⟨k0,f0⟩:=rV.f.cells 0 (by omega);obtain⟨k1,f1⟩:=rV.f.cells 1 (by omega);rw[HE.1]at k0;rw[HE.2]at k1;have x0:wr.cell? ⟨Y,0,none⟩=some (.int .i64 N):=by simp[World.cell?,rX.out]
  have x1:wr.cell? ⟨Y,1,none⟩=some (.int .i64 0):=by simp[World.cell?,rX.out]
  have x2:wr.cell? ⟨Y,2,none⟩=some (.int .i64 0):=by simp[World.cell?,rX.out]
  by_cases b7:j<ln
  .obtain⟨Z,hq,hB,c7⟩:=rV.z.place b7;simp only at hq hB c7;subst hq;have b0:(j:Int)<ln:=by omega
   obtain⟨⟨v0,q0⟩,p0⟩:=hB.cell (j*3) (by omega);obtain⟨⟨v1,q1⟩,p1⟩:=hB.cell (j*3+1) (by omega);obtain⟨⟨v2,q2⟩,p2⟩:=hB.cell (j*3+2) (by omega);have c6:Hid (uf w 119 48 3 (mG N) bk W L0 m0 ae ce (some ⟨Z,0,none⟩,ln,lc) (j+1) (((wr.setCell ⟨Z,j*3,none⟩ (.int .i64 N)).setCell ⟨Z,j*3+1,none⟩ (.int .i64 0)).setCell ⟨Z,j*3+2,none⟩ (.int .i64 0))):=rV.Cg b7;have aP:Y≠Z:=by have:=bJ Z rfl;omega
   have bO:Hid ((((wr.setCell ⟨Z,j*3,none⟩ (.int .i64 N)).setCell ⟨Z,j*3+1,none⟩ (.int .i64 0)).setCell ⟨Z,j*3+2,none⟩ (.int .i64 0)).heap[Y]? = some (.cells #[.int .i64 N,.int .i64 0,.int .i64 0] 48 (0,0))):=by
    show _=_;rw[af _ _ _ _ aP,af _ _ _ _ aP,af _ _ _ _ aP];exact rX
   clear hB;go_wp2_with fail
   go_roundw
   case rel=>exact⟨j+1,by omega,by go_num,c6,bO⟩
   case measure=>simp[intOf];omega
  have b0:¬((j:Int)<ln):=by omega
  have c8:ln=j:=by omega
  subst c8;have aD:Hid (ue w 119 48 3 1 (mG N) bk W L0 m0 ae (la,ln,lc) N [] (la,ln,lc) ae ce wr):=rV.done HE.2;have G:=az rV.r;have a2:Hid (∀k,(Value.slice ae m0 ce).ownBlock=some k->k≠bk/\k<wr.heap.size):=λk hk=>⟨eL G rV.f (by decide) k hk,(dA G k hk).2.1⟩;clear rV bQ;obtain⟨i,aC⟩:∃i,i=ae:=⟨_,rfl⟩;obtain⟨o,a6⟩:∃o,o=ce:=⟨_,rfl⟩;have aD:Hid (ue w 119 48 3 1 (mG N) bk W L0 m0 ae (la,ln,lc) N [] (la,ln,lc) i o wr):=by rw[aC,a6];exact aD
  rw[<-aC,<-a6]at k1 G a2;clear aC a6;go_wp2_with fail
  go_cut [] (λwx=>∃(aA:Option Addr) (aB:Nat),Hid (ue w 119 48 3 1 (mG N) bk W L0 m0 ae (la,ln,lc) N [(la,ln,lc)] (la,ln,lc) aA aB wx)/\Hid (wx.heap[Y]? = some (.cells #[.int .i64 N,.int .i64 0,.int .i64 0] 48 (0,0))))
  case first=>
   go_region_law (refine eS _ rfl (.tmp 35) (.tmp 43) 78 rfl 119 i0 _ 2 32 Tryz.underlying78 hi b2 aW b8 rfl (by decide) i m0 o L0 (by first|rfl|simp[Act.eval,Act.put]) (dD G (λk h=>ak _ _ _ (a2 k h).2)) ⟨wr.heap.size,0,none⟩ 1 1 [.slice la ln lc,.int .i64 N] (by first|rfl|simp[Act.eval,Act.put]) rfl (by intro j u H;match j,H with|0,H=>(simp at H;subst H;simp[Addr.add,go_sem])|1,H=>(simp at H;subst H;simp[Addr.add,go_sem])) (by simp[Value.oneCell']) (by unfold maxLen;omega) (by omega) (by decide) ?_;intro v' w6 ho J a8;have hg:World.grownBy (wr.alloc (.cells #[.slice la ln lc,.int .i64 N] 119)) w6 (Value.slice i m0 o).ownBlock:=⟨J.os,J.tape,J.output,J.size,J.block⟩;clear J;obtain⟨Z,cq,rfl⟩:=dM ho (by omega);have aG:Hid ((Value.slice i m0 o).ownBlock=some Z\/wr.heap.size<=Z):=(by rcases a8 with h|⟨g',h,hl⟩;exact ag h.symm;exact ab (by have e:Z=g':=(by injection h);simp at hl;omega));clear a8;have aJ:=az ho;have aK:=az hg;have bT:wr.heap.size<w6.heap.size:=(by have h9:=hg.size;simp at h9;omega);have a5:=((hg.block bk (by simp;omega) (λh=>(a2 bk h.symm).1 rfl)).trans (ak _ _ _ a7));have d6:w6.cell? ⟨bk,1,none⟩=some (.slice i m0 o):=(aw (a:=⟨bk,1,none⟩) a5).trans k1;have y6:w6.frozen? ⟨bk,1,none⟩=false:=(dg (a:=⟨bk,1,none⟩) a5).trans f1;have aR:Hid ((w6.setCell ⟨bk,1,none⟩ (.slice (some ⟨Z,0,none⟩) (m0+1) cq)).heap[Y]? = some (.cells #[.int .i64 N,.int .i64 0,.int .i64 0] 48 (0,0))):=DW rX aD.f G hg;clear a5 ho hg)
   all_goals
    go_wp2_with fail
    go_meet
    case rel=>exact⟨some ⟨Z,0,none⟩,cq,aD.line (Q:=[]) (by decide) (by decide) (by decide) (by decide) (by have e:L0++gQ (([]:List Sl).map (λy=>(y,N)))=L0:=(by unfold gQ;simp);rw[e];exact aJ) aK aG,aR⟩
  case rest=>
   obtain⟨bY,bP,b3,aX⟩:=hcut;clear aD G a2 k1 f1 a7 x0 x1 x2 rX;go_wp2_with fail
   go_loopw [6,7] (λgv kv wx=>∃(k:Nat) (x:Sl) (Q:List Sl) (aA:Option Addr) (aB:Nat),k<=3/\kv=.int .i64 k/\gv=.slice x.1 x.2.1 x.2.2/\Hid (Q.length=k+1/\x.2.1=ln+k/\eO x.1≠some Y)/\Hid (ue w 119 48 3 1 (mG N) bk W L0 m0 ae (la,ln,lc) N Q x aA aB wx)/\Hid (wx.heap[Y]? = some (.cells #[.int .i64 N,.int .i64 0,.int .i64 0] 48 (0,0)))) (λ_ kv _=>3-(intOf kv).toNat)
   case atStart=>exact⟨0,(la,ln,lc),[(la,ln,lc)],bY,bP,by omega,rfl,rfl,⟨rfl,rfl,(λe=>by have:=bJ Y e;omega)⟩,b3,aX⟩
   case round=>
    clear b3 aX;obtain⟨k,⟨xa,xn,xc⟩,Q,i,o,cD,rfl,rfl,rQ,rT,rX⟩:=hrel;simp only at rQ;by_cases hk:k<3
    .have cA:(k:Int)<3:=by omega
     have aN:Hid (wr.ownsRow 0 48 3 (.slice xa xn xc) xn (rowP (xn*3) (mG N))):=rT.x.1;have bE:=az (λk hk=>(dA aN k hk).2.1);have bX:xn<=100000003:=by have:=rQ.2.1;omega
     obtain⟨k0,f0⟩:=rT.f.cells 0 (by omega);have lx:=bz rX;have x0:wr.cell? ⟨Y,0,none⟩=some (.int .i64 N):=by simp[World.cell?,rX.out]
     have x1:wr.cell? ⟨Y,1,none⟩=some (.int .i64 0):=by simp[World.cell?,rX.out]
     have x2:wr.cell? ⟨Y,2,none⟩=some (.int .i64 0):=by simp[World.cell?,rX.out]
     go_wp2_with (at_builtin;refine lV rfl (.tmp 52) (.tmp 54) 45 rfl 48 j0 _ 3 24 underlying45 H c9 bV bR rfl (by decide) _ _ _ _ rfl (dD aN (λk h=>ak _ _ _ (bE k h))) ⟨wr.heap.size,0,none⟩ 1 1 [.int .i64 N,.int .i64 0,.int .i64 0] rfl rfl ?c1 ?c2 ?c3 ?c4 ?c5 ?_)
     try case c1=>intro j u H;match j,H with|0,H=>(simp at H;subst H;simp[Addr.add,go_sem])|1,H=>(simp at H;subst H;simp[Addr.add,go_sem])|2,H=>(simp at H;subst H;simp[Addr.add,go_sem])
     try case c2=>simp[Value.oneCell']
     try case c3=>unfold maxLen;omega
     try case c4=>omega
     try case c5=>omega
     intro v' w5 ho aM;obtain⟨⟨a1,a0,a3⟩,hv,bF,aO,bG⟩:=rT.more (by decide) (by decide) (by decide) (by decide) (ED xn N) ho aM;have bU:v'=.slice a1 a0 a3:=hv;simp only at bF aO;subst bU;have a4:=az bG;have aV:=az (Gs rX rQ.2.2 aM);have aQ:Hid (Q.length=k+1/\a0=ln+(k+1)/\eO a1≠some Y):=⟨rQ.1,(by have:=rQ.2.1;omega),(λe=>by rcases aO Y e with h|h;exact rQ.2.2 h;omega)⟩;have aL:m0+Q.length<=100000010:=by have:=rQ.1;omega
     clear ho aM hv bF aO bG aN bE bX x0 x1 x2 rX rT rQ;have G:=az a4.r;have a2:Hid (∀k,(Value.slice i (m0+Q.length) o).ownBlock=some k->k≠bk/\k<w5.heap.size):=λk hk=>⟨eL G a4.f (by decide) k hk,(dA G k hk).2.1⟩;have a7:=a4.f.lt;obtain⟨k0,f0⟩:=a4.f.cells 0 (by omega);obtain⟨k1,f1⟩:=a4.f.cells 1 (by omega);rw[show ep W 1 (.slice i (m0+Q.length) o) 0=.int .i64 N1 from(by unfold ep;rw[aa (by decide)];exact HE.1)]at k0;rw[show ep W 1 (.slice i (m0+Q.length) o) 1=.slice i (m0+Q.length) o from(by unfold ep;rw[aj rfl])]at k1;obtain⟨mq,a9⟩:∃mq,mq=m0+Q.length:=⟨_,rfl⟩;obtain⟨Lq,aE⟩:∃Lq,Lq=L0++gQ (Q.map (λy=>(y,N))):=⟨_,rfl⟩;have bK:=az (ay a9 aE);rw[<-a9]at k1 G a2 aL;rw[<-aE]at G;clear a9 aE;go_wp2_with fail
     go_region_law (refine eS _ rfl (.tmp 60) (.tmp 68) 78 rfl 119 i0 _ 2 32 Tryz.underlying78 hi b2 aW b8 rfl (by decide) i mq o Lq (by first|rfl|simp[Act.eval,Act.put]) (dD G (λk h=>ak _ _ _ (a2 k h).2)) ⟨w5.heap.size,0,none⟩ 1 1 [.slice a1 a0 a3,.int .i64 N] (by first|rfl|simp[Act.eval,Act.put]) rfl (by intro j u H;match j,H with|0,H=>(simp at H;subst H;simp[Addr.add,go_sem])|1,H=>(simp at H;subst H;simp[Addr.add,go_sem])) (by simp[Value.oneCell']) (by unfold maxLen;omega) (by omega) (by decide) ?_;intro v' w6 ho J a8;have hg:World.grownBy (w5.alloc (.cells #[.slice a1 a0 a3,.int .i64 N] 119)) w6 (Value.slice i mq o).ownBlock:=⟨J.os,J.tape,J.output,J.size,J.block⟩;clear J;obtain⟨Z,cq,rfl⟩:=dM ho (by omega);have aG:Hid ((Value.slice i mq o).ownBlock=some Z\/w5.heap.size<=Z):=(by rcases a8 with h|⟨g',h,hl⟩;exact ag h.symm;exact ab (by have e:Z=g':=(by injection h);simp at hl;omega));clear a8;have aJ:=az ho;have aK:=az hg;have bT:w5.heap.size<w6.heap.size:=(by have h9:=hg.size;simp at h9;omega);have a5:=((hg.block bk (by simp;omega) (λh=>(a2 bk h.symm).1 rfl)).trans (ak _ _ _ a7));have d6:=(aw (a:=⟨bk,1,none⟩) a5).trans k1;have y6:=(dg (a:=⟨bk,1,none⟩) a5).trans f1;have aR:Hid ((w6.setCell ⟨bk,1,none⟩ (.slice (some ⟨Z,0,none⟩) (mq+1) cq)).heap[Y]? = some (.cells #[.int .i64 N,.int .i64 0,.int .i64 0] 48 (0,0))):=DW aV a4.f G hg;clear a5 ho hg)
     all_goals
      have bM:Hid (ue w 119 48 3 1 (mG N) bk W L0 m0 ae (la,ln,lc) N (Q++[(a1,a0,a3)]) (a1,a0,a3) (some ⟨Z,0,none⟩) cq (w6.setCell ⟨bk,1,none⟩ (.slice (some ⟨Z,0,none⟩) (mq+1) cq))):=by
       obtain⟨a9,aE⟩:=bK;subst a9 aE;exact a4.line (by decide) (by decide) (by decide) (by decide) aJ aK aG
      have bZ:Hid ((Q++[(a1,a0,a3)]).length=(k+1)+1/\a0=ln+(k+1)/\eO a1≠some Y):=⟨(by rw[bo];show Q.length+1=_;have:=aQ.1;omega),aQ.2⟩;clear a4 G a2 k1 f1 bK aQ aL a7 aK aJ aG aV;go_wp2_with fail
      go_roundw
      case rel=>exact⟨k+1,(a1,a0,a3),Q++[(a1,a0,a3)],some ⟨Z,0,none⟩,cq,by omega,by go_num,rfl,bZ,bM,aR⟩
      case measure=>simp[intOf];omega
    obtain rfl:k=3:=by omega
    go_wp2_with fail
    go_end0;obtain⟨q1,q2,_⟩:=rQ;have hn1:=bL.out;have bN:=bS.out;subst bN;subst hn1;exact⟨rfl,Q,(xa,xn,xc),i,o,q1,q2,rT⟩
theorem IV{bk n m0 ce:Nat}{ae:Option Addr}{Ev:Nat->Value}{L0 xs:List Value}{W:Option Addr}{ln lc:Nat}{w:World}(hF:Full w bk 81 3 3 Ev)(h0:Ev 0=.int .i64 n)(h1:Ev 2=.slice ae m0 ce)(hR:w.ownsRow 0 121 2 (.slice ae m0 ce) m0 L0)(hL:w.ownsRow 0 3 1 (.slice W ln lc) ln xs)(hn:n<=1000000000)(hm:m0<=100000000)(hl:ln<=100000000): Calls prog 78 #[P0 bk,.slice W ln lc] w λe w'=>e=.returned (.tuple #[])/\∃Q x aA aC,Q.length=4/\x.2.1=ln+3/\ue w 121 3 1 2 (qE (-((n:Int)+1))) bk (ep Ev 0 (.int .i64 ((n:Int)+1))) L0 m0 ae (W,ln,lc) (-((n:Int)+1)) Q x aA aC w':=by
 obtain⟨i0,hi,aY,aU,b4⟩:=info_parts Tryz.Ff;obtain⟨j0,Y,bX,bP,bL⟩:=info_parts Tryz.Hq;obtain⟨c0,z0⟩:=hF.cells 0 (by omega);rw[h0]at c0;obtain⟨N1,aH⟩:∃N1:Int,N1=(n:Int)+1:=⟨_,rfl⟩;obtain⟨N,hN⟩:∃N:Int,N=-N1:=⟨_,rfl⟩;rw[<-aH,<-hN];have bZ:IntKind.i64.wrap ((n:Int)+1)=N1:=by rw[bl,bd _ (by omega)];exact aH.symm
 have c6:IntKind.i64.wrap (-N1)=N:=by rw[bl,bd _ (by omega)];exact hN.symm
 have bM:=az hN;clear hN;have aW:Full (w.setCell ⟨bk,0,none⟩ (.int .i64 N1)) bk 81 3 3 (ep Ev 0 (.int .i64 N1)):=hF.ep 0 _;have b8:(w.setCell ⟨bk,0,none⟩ (.int .i64 N1)).ownsRow 0 121 2 (.slice ae m0 ce) m0 L0:=dD hR (λk hk=>af _ _ _ _ (eL hR hF (by decide) k hk));have b6:(w.setCell ⟨bk,0,none⟩ (.int .i64 N1)).ownsRow 0 3 1 (.slice W ln lc) ln xs:=dD hL (λk hk=>af _ _ _ _ (eL hL hF (by decide) k hk));have aT:dy (λk=>k=bk\/eO ae=some k\/eO W=some k) w (w.setCell ⟨bk,0,none⟩ (.int .i64 N1)):=bm (S:=λk=>k=bk\/eO ae=some k\/eO W=some k) (a:=⟨bk,0,none⟩) (dk _ _) (ag (ag rfl)) _;have b9:=λk hk=>(dA hL k (by rw[dr];exact hk)).2.1;have b7:(w.setCell ⟨bk,0,none⟩ (.int .i64 N1)).heap.size=w.heap.size:=by simp[World.setCell]
 have bE:(ep Ev 0 (.int .i64 N1)) 2=.slice ae m0 ce:=by unfold ep;rw[aa (by decide)];exact h1
 have bD:(ep Ev 0 (.int .i64 N1)) 0=.int .i64 N1:=by unfold ep;rw[aj rfl]
 have aR:=az aW;have aO:=az b8;have aN:=az b6;have aP:=az aT;have c8:=az b9;have HE:=az (ay bD bE);have bG:=az aH;clear aW b8 b6 aT b9 bD bE aH h0 h1 hF hR hL;generalize ep Ev 0 (.int .i64 N1)=J at *;go_in;go_wp2_with fail
 have a5:Hid ((w.setCell ⟨bk,0,none⟩ (.int .i64 N1)).grownBy (w.setCell ⟨bk,0,none⟩ (.int .i64 N1)) none):=ax _ _;obtain⟨w1,aL⟩:∃w1:World,w1=w.setCell ⟨bk,0,none⟩ (.int .i64 N1):=⟨_,rfl⟩;rw[<-aL]at aR aO aN aP b7 a5 ⊢;clear aL;obtain⟨w2,aB⟩:∃w2:World,w2=w1:=⟨_,rfl⟩;rw[<-aB];have a5:Hid (w1.grownBy w2 none):=by rw[aB];exact a5
 clear aB;have b2:=az trivial;have b1:Hid (uf w 121 3 1 (qE N) bk J L0 m0 ae ce (W,ln,lc) 0 w2):=uf.Ki aR aO aN aP a5;clear aR aO aN aP a5 b7 z0 c0;go_loopw [4] (λiv wx=>∃j:Nat,j<=ln/\iv=.int .i64 j/\Hid (uf w 121 3 1 (qE N) bk J L0 m0 ae ce (W,ln,lc) j wx)/\Hid (True)) (λiv _=>ln-(intOf iv).toNat)
 case atStart=>exact⟨0,by omega,rfl,b1,b2⟩
 case round=>
  clear b1 b2;obtain⟨j,bK,rfl,rV,rX⟩:=hrel;have a7:=rV.f.lt;obtain⟨k0,f0⟩:=rV.f.cells 0 (by omega);obtain⟨k1,f1⟩:=rV.f.cells 2 (by omega);rw[HE.1]at k0;rw[HE.2]at k1;by_cases b3:j<ln
  .obtain⟨gq,hq,hB,bV⟩:=rV.z.place b3;simp only at hq hB bV;subst hq;have aX:(j:Int)<ln:=by omega
   obtain⟨⟨v0,q0⟩,p0⟩:=hB.cell j (by omega);have bU:Hid (uf w 121 3 1 (qE N) bk J L0 m0 ae ce (some ⟨gq,0,none⟩,ln,lc) (j+1) (wr.setCell ⟨gq,j,none⟩ (.int .i64 N))):=rV.Cf b3;clear hB;go_wp2_with fail
   go_roundw
   case rel=>exact⟨j+1,by omega,by go_num,bU,trivial⟩
   case measure=>simp[intOf];omega
  have aX:¬((j:Int)<ln):=by omega
  have bW:ln=j:=by omega
  subst bW;have aJ:Hid (ue w 121 3 1 2 (qE N) bk J L0 m0 ae (W,ln,lc) N [] (W,ln,lc) ae ce wr):=rV.done HE.2;have H:=az rV.r;have a0:Hid (∀k,(Value.slice ae m0 ce).ownBlock=some k->k≠bk/\k<wr.heap.size):=λk hk=>⟨eL H rV.f (by decide) k hk,(dA H k hk).2.1⟩;clear rV bK;obtain⟨i,aD⟩:∃i,i=ae:=⟨_,rfl⟩;obtain⟨o,a6⟩:∃o,o=ce:=⟨_,rfl⟩;have aJ:Hid (ue w 121 3 1 2 (qE N) bk J L0 m0 ae (W,ln,lc) N [] (W,ln,lc) i o wr):=by rw[aD,a6];exact aJ
  rw[<-aD,<-a6]at k1 H a0;clear aD a6;go_wp2_with fail
  go_cut [] (λwx=>∃(aA:Option Addr) (aC:Nat),Hid (ue w 121 3 1 2 (qE N) bk J L0 m0 ae (W,ln,lc) N [(W,ln,lc)] (W,ln,lc) aA aC wx)/\Hid (True))
  case first=>
   go_region_law (refine eS _ rfl (.tmp 32) (.tmp 40) 79 rfl 121 i0 _ 2 32 Tryz.underlying79 hi aY aU b4 rfl (by decide) i m0 o L0 (by first|rfl|simp[Act.eval,Act.put]) (dD H (λk h=>ak _ _ _ (a0 k h).2)) ⟨wr.heap.size,0,none⟩ 1 1 [.slice W ln lc,.int .i64 N] (by first|rfl|simp[Act.eval,Act.put]) rfl (by intro j u Y;match j,Y with|0,Y=>(simp at Y;subst Y;simp[Addr.add,go_sem])|1,Y=>(simp at Y;subst Y;simp[Addr.add,go_sem])) (by simp[Value.oneCell']) (by unfold maxLen;omega) (by omega) (by decide) ?_;intro v' w6 ho G a8;have hg:World.grownBy (wr.alloc (.cells #[.slice W ln lc,.int .i64 N] 121)) w6 (Value.slice i m0 o).ownBlock:=⟨G.os,G.tape,G.output,G.size,G.block⟩;clear G;obtain⟨gq,cq,rfl⟩:=dM ho (by omega);have aG:Hid ((Value.slice i m0 o).ownBlock=some gq\/wr.heap.size<=gq):=(by rcases a8 with h|⟨g',h,hl⟩;exact ag h.symm;exact ab (by have e:gq=g':=(by injection h);simp at hl;omega));clear a8;have aI:=az ho;have aK:=az hg;have bN:wr.heap.size<w6.heap.size:=(by have h9:=hg.size;simp at h9;omega);have a3:=((hg.block bk (by simp;omega) (λh=>(a0 bk h.symm).1 rfl)).trans (ak _ _ _ a7));have d6:w6.cell? ⟨bk,2,none⟩=some (.slice i m0 o):=(aw (a:=⟨bk,2,none⟩) a3).trans k1;have y6:w6.frozen? ⟨bk,2,none⟩=false:=(dg (a:=⟨bk,2,none⟩) a3).trans f1;clear a3 ho hg)
   all_goals
    go_wp2_with fail
    go_meet
    case rel=>exact⟨some ⟨gq,0,none⟩,cq,aJ.line (Q:=[]) (by decide) (by decide) (by decide) (by decide) (by have e:L0++gQ (([]:List Sl).map (λy=>(y,N)))=L0:=(by unfold gQ;simp);rw[e];exact aI) aK aG,trivial⟩
  case rest=>
   obtain⟨bS,bJ,aZ,aV⟩:=hcut;clear aJ H a0 k0 f0 k1 f1 a7 rX;go_wp2_with fail
   go_loopw [5,6] (λgv kv wx=>∃(k:Nat) (x:Sl) (Q:List Sl) (aA:Option Addr) (aC:Nat),k<=3/\kv=.int .i64 k/\gv=.slice x.1 x.2.1 x.2.2/\Hid (Q.length=k+1/\x.2.1=ln+k/\True)/\Hid (ue w 121 3 1 2 (qE N) bk J L0 m0 ae (W,ln,lc) N Q x aA aC wx)/\Hid (True)) (λ_ kv _=>3-(intOf kv).toNat)
   case atStart=>exact⟨0,(W,ln,lc),[(W,ln,lc)],bS,bJ,by omega,rfl,rfl,⟨rfl,rfl,trivial⟩,aZ,aV⟩
   case round=>
    clear aZ aV;obtain⟨k,⟨xa,xn,xc⟩,Q,i,o,c7,rfl,rfl,rQ,rT,rX⟩:=hrel;simp only at rQ;by_cases hk:k<3
    .have bY:(k:Int)<3:=by omega
     have aQ:Hid (wr.ownsRow 0 3 1 (.slice xa xn xc) xn (rowP (xn*1) (qE N))):=rT.x.1;have bA:=az (λk hk=>(dA aQ k hk).2.1);have bR:xn<=100000003:=by have:=rQ.2.1;omega
     obtain⟨k0,f0⟩:=rT.f.cells 0 (by omega);rw[show ep J 2 (.slice i (m0+Q.length) o) 0=.int .i64 N1 from(by unfold ep;rw[aa (by decide)];exact HE.1)]at k0;go_wp2_with (at_builtin;refine lV rfl (.tmp 49) (.tmp 55) 54 rfl 3 j0 _ 1 8 Tryz.tS Y bX bP bL rfl (by decide) _ _ _ _ rfl (dD aQ (λk h=>ak _ _ _ (bA k h))) ⟨wr.heap.size,0,none⟩ 1 1 [.int .i64 N] rfl rfl ?c1 ?c2 ?c3 ?c4 ?c5 ?_)
     try case c1=>intro j u Y;match j,Y with|0,Y=>(simp at Y;subst Y;simp[Addr.add,go_sem])
     try case c2=>simp[Value.oneCell']
     try case c3=>unfold maxLen;omega
     try case c4=>omega
     try case c5=>omega
     intro v' w5 ho b0;obtain⟨⟨a2,Z,a1⟩,hv,bB,b5,bC⟩:=rT.more (by decide) (by decide) (by decide) (by decide) (EC xn N) (by simp only[Nat.mul_one];exact ho) b0;have bO:v'=.slice a2 Z a1:=hv;simp only at bB b5;subst bO;have a4:=az bC;have aS:Hid (Q.length=k+1/\Z=ln+(k+1)/\True):=⟨rQ.1,(by have:=rQ.2.1;omega),trivial⟩;have aM:m0+Q.length<=100000010:=by have:=rQ.1;omega
     clear ho b0 hv bB b5 bC aQ bA bR k0 f0 rX rT rQ;have H:=az a4.r;have a0:Hid (∀k,(Value.slice i (m0+Q.length) o).ownBlock=some k->k≠bk/\k<w5.heap.size):=λk hk=>⟨eL H a4.f (by decide) k hk,(dA H k hk).2.1⟩;have a7:=a4.f.lt;obtain⟨k0,f0⟩:=a4.f.cells 0 (by omega);obtain⟨k1,f1⟩:=a4.f.cells 2 (by omega);rw[show ep J 2 (.slice i (m0+Q.length) o) 0=.int .i64 N1 from(by unfold ep;rw[aa (by decide)];exact HE.1)]at k0;rw[show ep J 2 (.slice i (m0+Q.length) o) 2=.slice i (m0+Q.length) o from(by unfold ep;rw[aj rfl])]at k1;obtain⟨mq,a9⟩:∃mq,mq=m0+Q.length:=⟨_,rfl⟩;obtain⟨Lq,aE⟩:∃Lq,Lq=L0++gQ (Q.map (λy=>(y,N))):=⟨_,rfl⟩;have bF:=az (ay a9 aE);rw[<-a9]at k1 H a0 aM;rw[<-aE]at H;clear a9 aE;go_wp2_with fail
     go_region_law (refine eS _ rfl (.tmp 61) (.tmp 69) 79 rfl 121 i0 _ 2 32 Tryz.underlying79 hi aY aU b4 rfl (by decide) i mq o Lq (by first|rfl|simp[Act.eval,Act.put]) (dD H (λk h=>ak _ _ _ (a0 k h).2)) ⟨w5.heap.size,0,none⟩ 1 1 [.slice a2 Z a1,.int .i64 N] (by first|rfl|simp[Act.eval,Act.put]) rfl (by intro j u Y;match j,Y with|0,Y=>(simp at Y;subst Y;simp[Addr.add,go_sem])|1,Y=>(simp at Y;subst Y;simp[Addr.add,go_sem])) (by simp[Value.oneCell']) (by unfold maxLen;omega) (by omega) (by decide) ?_;intro v' w6 ho G a8;have hg:World.grownBy (w5.alloc (.cells #[.slice a2 Z a1,.int .i64 N] 121)) w6 (Value.slice i mq o).ownBlock:=⟨G.os,G.tape,G.output,G.size,G.block⟩;clear G;obtain⟨gq,cq,rfl⟩:=dM ho (by omega);have aG:Hid ((Value.slice i mq o).ownBlock=some gq\/w5.heap.size<=gq):=(by rcases a8 with h|⟨g',h,hl⟩;exact ag h.symm;exact ab (by have e:gq=g':=(by injection h);simp at hl;omega));clear a8;have aI:=az ho;have aK:=az hg;have bN:w5.heap.size<w6.heap.size:=(by have h9:=hg.size;simp at h9;omega);have a3:=((hg.block bk (by simp;omega) (λh=>(a0 bk h.symm).1 rfl)).trans (ak _ _ _ a7));have d6:=(aw (a:=⟨bk,2,none⟩) a3).trans k1;have y6:=(dg (a:=⟨bk,2,none⟩) a3).trans f1;clear a3 ho hg)
     all_goals
      have bH:Hid (ue w 121 3 1 2 (qE N) bk J L0 m0 ae (W,ln,lc) N (Q++[(a2,Z,a1)]) (a2,Z,a1) (some ⟨gq,0,none⟩) cq (w6.setCell ⟨bk,2,none⟩ (.slice (some ⟨gq,0,none⟩) (mq+1) cq))):=by
       obtain⟨a9,aE⟩:=bF;subst a9 aE;exact a4.line (by decide) (by decide) (by decide) (by decide) aI aK aG
      have bT:Hid ((Q++[(a2,Z,a1)]).length=(k+1)+1/\Z=ln+(k+1)/\True):=⟨(by rw[bo];show Q.length+1=_;have:=aS.1;omega),aS.2⟩;clear a4 H a0 k0 k1 f0 f1 bF aS aM a7 aK aI aG;go_wp2_with fail
      go_roundw
      case rel=>exact⟨k+1,(a2,Z,a1),Q++[(a2,Z,a1)],some ⟨gq,0,none⟩,cq,by omega,by go_num,rfl,bT,bH,trivial⟩
      case measure=>simp[intOf];omega
    obtain rfl:k=3:=by omega
    go_wp2_with fail
    go_end0;obtain⟨q1,q2,_⟩:=rQ;have hn1:=bG.out;have bI:=bM.out;subst bI;subst hn1;exact⟨rfl,Q,(xa,xn,xc),i,o,q1,q2,rT⟩
theorem Ai:∀{E:List (Sl×Int)} {k:Nat} {x:Sl×Int},E[k]? = some x->(gQ E)[k*2]? = some (oL x.1)/\(gQ E)[k*2+1]? = some (.int .i64 x.2)
 | [],k,x,h=>by simp at h
 | y :: E,0,x,h=>by
  have e:y=x:=by simpa using h
  subst e;exact⟨rfl,rfl⟩
 | y :: E,k+1,x,h=>by
  have:=Ai (E:=E) (k:=k) (x:=x) (by simpa using h);have i:gQ (y :: E)=oL y.1 :: .int .i64 y.2 :: gQ E:=by unfold gQ;simp
  rw[i,show(k+1)*2=k*2+2 by omega];exact this
theorem hZ{w:World}{i sz g n cap j:Nat}{e:TypeId}{x:Value}{xs:List Value}(h:w.ownsRow i e sz (.slice (some ⟨g,0,none⟩) n cap) n xs)(hx:xs[j]? = some x):w.cell? ⟨g,j,none⟩=some x:=by
 rcases h.2 with⟨h,_⟩|⟨g',J,o,y,_,H,_,_,W,G⟩
 .cases h
 cases y;have u:j<n*sz:=by
  have:=(bu.1 hx).1;have:=h.1;omega
 have:o[j]? = some x:=by
  rw[<-G,dh,aj u]at hx;simpa using hx
 simp[World.cell?,H,this]
theorem zW{w:World}{T':TypeId}{ra:Option Addr}{c k:Nat}{E:List (Sl×Int)}{x:Sl×Int}(h:w.ownsRow 0 T' 2 (.slice ra E.length c) E.length (gQ E))(e:E[k]? = some x):∃b,ra=some ⟨b,0,none⟩/\b<w.heap.size/\w.cell? ⟨b,k*2,none⟩=some (.slice x.1.1 x.1.2.1 x.1.2.2)/\w.cell? ⟨b,k*2+1,none⟩=some (.int .i64 x.2):=by
 have i:=(bu.1 e).1;obtain⟨b,J,y⟩:=dM h (by omega);injection y with G _ u;subst G u;obtain⟨o,H⟩:=Ai e;exact⟨b,rfl,(dA h b rfl).2.1,hZ h o,hZ h H⟩
theorem FV{w:World}{T:TypeId}{sz:Nat}{P:Nat->Value}{x:Sl}(h:Rd w T sz P x){i:Nat}(hi:i<x.2.1)(W:sz≠0):∃b,x.1=some ⟨b,0,none⟩/\b<w.heap.size/\∀j,j<sz->w.cell? ⟨b,i*sz+j,none⟩=some (P (i*sz+j)):=by
 obtain⟨b,y,G⟩:=dM h (by omega);have o:Value.slice x.1 x.2.1 x.2.2=.slice (some ⟨b,0,none⟩) x.2.1 y:=G;injection o with u _ J;have e:x=(some ⟨b,0,none⟩,x.2.1,x.2.2):=by rw[<-u]
 refine⟨b,u,(h.lt (k:=b) (by rw[u];rfl)).1,λj H=>?_⟩;rw[e]at h;refine zE h ?_;have:(i+1)*sz<=x.2.1*sz:=Nat.mul_le_mul_right _ hi;rw[Nat.add_mul,Nat.one_mul]at this;omega
theorem G9{bk ca cb:Nat}{ra rb:Option Addr}{Ev:Nat->Value}{E J:List (Sl×Int)}{w:World}(hF:Full w bk 81 3 3 Ev)(h1:Ev 1=.slice ra E.length ca)(h2:Ev 2=.slice rb J.length cb)(hE:w.ownsRow 0 119 2 (.slice ra E.length ca) E.length (gQ E))(hJ:w.ownsRow 0 121 2 (.slice rb J.length cb) J.length (gQ J))(aD:∀x,x∈E->Rd w 48 3 (mG x.2) x.1/\x.1.2.1<=1000000000)(a6:∀x,x∈J->Rd w 3 1 (qE x.2) x.1/\x.1.2.1<=1000000000)(le:E.length<=1000000000)(lj:J.length<=1000000000): Calls prog 34 #[P0 bk] w λe w'=>e=.returned (.bool true)/\w.grownBy w' none:=by
 obtain⟨c1,_⟩:=hF.cells 1 (by omega);obtain⟨c2,_⟩:=hF.cells 2 (by omega);rw[h1]at c1;rw[h2]at c2;have Z:=hF.lt;have HE:Hid (∀k x,E[k]? = some x->(∃b,ra=some ⟨b,0,none⟩/\b<w.heap.size/\w.cell? ⟨b,k*2,none⟩=some (.slice x.1.1 x.1.2.1 x.1.2.2)/\w.cell? ⟨b,k*2+1,none⟩=some (.int .i64 x.2))/\Rd w 48 3 (mG x.2) x.1/\x.1.2.1<=1000000000):=λk x hk=>⟨zW hE hk,aD x (ed hk)⟩;have HJ:Hid (∀k x,J[k]? = some x->(∃b,rb=some ⟨b,0,none⟩/\b<w.heap.size/\w.cell? ⟨b,k*2,none⟩=some (.slice x.1.1 x.1.2.1 x.1.2.2)/\w.cell? ⟨b,k*2+1,none⟩=some (.int .i64 x.2))/\Rd w 3 1 (qE x.2) x.1/\x.1.2.1<=1000000000):=λk x hk=>⟨zW hJ hk,a6 x (ed hk)⟩;clear hE hJ aD a6 h1 h2 hF;obtain⟨ne,a1⟩:∃ne,ne=E.length:=⟨_,rfl⟩;obtain⟨Y,a2⟩:∃Y,Y=J.length:=⟨_,rfl⟩;rw[<-a1]at c1 le;rw[<-a2]at c2 lj;have aG:=az a1;have aE:=az a2;clear a1 a2;go_in;go_wp2_with fail
 go_loopw [3] (λkv wr=>∃k:Nat,k<=ne/\kv=.int .i64 k/\Hid (w.grownBy wr none)) (λkv _=>ne-(intOf kv).toNat)
 case atStart=>exact⟨0,by omega,rfl,ax _ _⟩
 case round=>
  obtain⟨k,hk,rfl,y⟩:=hrel;have d1:=(bh y (a:=⟨bk,1,none⟩) Z).1.trans c1;have lr:=y.size;by_cases aF:k<ne
  .obtain⟨x,hx⟩:∃x,E[k]? = some x:=⟨_,bn (by rw[<-aG.out];exact aF)⟩;obtain⟨⟨b,rfl,b1,b2,b3⟩,b4,b5⟩:=HE k x hx;obtain⟨⟨xa,G,xc⟩,N⟩:=x;simp only at b2 b3 b4 b5;have a3:=az b4;have e1:wr.cell? ⟨b,k*2+1,none⟩=some (.int .i64 N):=(bh y (a:=⟨b,k*2+1,none⟩) b1).1.trans b3;have lb:b<wr.heap.size:=by omega
   have a0:=az b2;clear b2 b3 b4 hx;have aC:(k:Int)<ne:=by omega
   go_wp2_with fail
   have a7:=bf wr (.cells #[.int .i64 N,.int .i64 0,.int .i64 0] 48);have H:Hid (w.grownBy (wr.alloc (.cells #[.int .i64 N,.int .i64 0,.int .i64 0] 48)) none):=au y _;generalize wr.alloc (.cells #[.int .i64 N,.int .i64 0,.int .i64 0] 48)=w2 at *;generalize wr.heap.size=xb at *;clear d1 e1 y;have aB:=az a7;clear a7;go_loopw [5] (λiv wx=>∃i:Nat,i<=G/\iv=.int .i64 i/\Hid (w.grownBy wx none)/\Hid (wx.heap[xb]? = some (.cells #[.int .i64 N,.int .i64 0,.int .i64 0] 48 (0,0)))) (λiv _=>G-(intOf iv).toNat)
   case atStart=>exact⟨0,by omega,rfl,H,aB⟩
   case round=>
    clear H aB;obtain⟨i,hi,rfl,y,hX⟩:=hrel;have d1:=(bh y (a:=⟨bk,1,none⟩) Z).1.trans c1;have e0:wr.cell? ⟨b,k*2,none⟩=some (.slice xa G xc):=(bh y (a:=⟨b,k*2,none⟩) b1).1.trans a0;have lr:=y.size
    have lx:=bz hX;have x0:wr.cell? ⟨xb,0,none⟩=some (.int .i64 N):=by simp[World.cell?,hX.out]
    have x1:wr.cell? ⟨xb,1,none⟩=some (.int .i64 0):=by simp[World.cell?,hX.out]
    have x2:wr.cell? ⟨xb,2,none⟩=some (.int .i64 0):=by simp[World.cell?,hX.out]
    by_cases a4:i<G
    .obtain⟨u,hq,q1,q2⟩:=FV a3 (i:=i) a4 (by decide);simp only at hq;subst hq;have y0:wr.cell? ⟨u,i*3,none⟩=some (.int .i64 N):=by
      have:=q2 0 (by omega);rw[Nat.add_zero]at this;rw[(bh y (a:=⟨u,i*3,none⟩) q1).1,this];unfold mG;rw[aj (by omega)]
     have y1:wr.cell? ⟨u,i*3+1,none⟩=some (.int .i64 0):=by
      rw[(bh y (a:=⟨u,i*3+1,none⟩) q1).1,q2 1 (by omega)];unfold mG;rw[aa (by omega)]
     have y2:wr.cell? ⟨u,i*3+2,none⟩=some (.int .i64 0):=by
      rw[(bh y (a:=⟨u,i*3+2,none⟩) q1).1,q2 2 (by omega)];unfold mG;rw[aa (by omega)]
     have W:(i:Int)<G:=by omega
     clear q2;go_wp2_with fail
     go_quiet (fail)
     go_wp2_with fail
     go_roundw
     case rel=>exact⟨i+1,by omega,by go_num,⟨y.os,y.tape,y.output,y.size,y.block⟩,hX⟩
     case measure=>simp[intOf];omega
    have W:¬((i:Int)<G):=by omega
    go_wp2_with fail
    go_roundw
    case rel=>exact⟨k+1,by omega,by go_num,y⟩
    case measure=>simp[intOf];omega
  have aC:¬((k:Int)<ne):=by omega
  clear lr HE;have aA:=y;go_wp2_with fail
  clear d1;go_loopw [6] (λkv wx=>∃k:Nat,k<=Y/\kv=.int .i64 k/\Hid (w.grownBy wx none)) (λkv _=>Y-(intOf kv).toNat)
  case atStart=>exact⟨0,by omega,rfl,aA⟩
  case round=>
   clear aA;obtain⟨q,hq,rfl,H⟩:=hrel;have d2:=(bh H (a:=⟨bk,2,none⟩) Z).1.trans c2;by_cases aH:q<Y
   .obtain⟨x,hx⟩:∃x,J[q]? = some x:=⟨_,bn (by rw[<-aE.out];exact aH)⟩;obtain⟨⟨b,rfl,b1,b2,b3⟩,b4,b5⟩:=HJ q x hx;obtain⟨⟨xa,G,xc⟩,N⟩:=x;simp only at b2 b3 b4 b5;have a3:=az b4;have a0:=az (ay b2 b3);clear b2 b3 b4 hx;have a5:(q:Int)<Y:=by omega
    have a9:=H;go_wp2_with fail
    clear d2;go_loopw [7] (λiv wx=>∃i:Nat,i<=G/\iv=.int .i64 i/\Hid (w.grownBy wx none)) (λiv _=>G-(intOf iv).toNat)
    case atStart=>exact⟨0,by omega,rfl,a9⟩
    case round=>
     clear a9;obtain⟨i,hi,rfl,o⟩:=hrel;have d2:=(bh o (a:=⟨bk,2,none⟩) Z).1.trans c2;have e0:=(bh o (a:=⟨b,q*2,none⟩) b1).1.trans a0.1;have e1:=(bh o (a:=⟨b,q*2+1,none⟩) b1).1.trans a0.2;have lr:=o.size
     by_cases a4:i<G
     .obtain⟨u,a8,q1,q2⟩:=FV a3 (i:=i) a4 (by decide);simp only at a8;subst a8;have y0:wr.cell? ⟨u,i,none⟩=some (.int .i64 N):=by
       have:=q2 0 (by omega);rw[Nat.add_zero,Nat.mul_one]at this;rw[(bh o (a:=⟨u,i,none⟩) q1).1,this];rfl
      have W:(i:Int)<G:=by omega
      clear q2;go_wp2_with fail
      go_quiet (fail)
      go_wp2_with fail
      go_roundw
      case rel=>exact⟨i+1,by omega,by go_num,⟨o.os,o.tape,o.output,o.size,o.block⟩⟩
      case measure=>simp[intOf];omega
     have W:¬((i:Int)<G):=by omega
     go_wp2_with fail
     go_roundw
     case rel=>exact⟨q+1,by omega,by go_num,o⟩
     case measure=>simp[intOf];omega
   have a5:¬((q:Int)<Y):=by omega
   go_wp2_with fail
   go_ret;exact⟨rfl,H⟩
