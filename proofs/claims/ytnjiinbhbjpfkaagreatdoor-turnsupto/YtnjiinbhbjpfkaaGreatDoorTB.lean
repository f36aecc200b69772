import Derived.Test.YtnjiinbhbjpfkaaGreatDoorTA
import Derived.Deep.AppendSrc
set_option maxRecDepth 100000
set_option maxHeartbeats 0
set_option linter.all false
namespace Go.Proofs.YtnjiinbhbjpfkaaGreatDoor
open Go.RowKit Go.Proofs.Tryz
namespace B
variable {nr p:Nat}{on:Nat->Bool}{s:St}{v:V}
def sG.up{e:Nat->Bool}{n:Nat}(h:sG on n v)(i:∀k,on k=true->e k=true):sG e n v:=by
 rcases h with h|⟨G,y,u,o⟩
 .exact Or.inl h
 exact Or.inr ⟨G,y,i _ u,o⟩
def EY{kd:Kd}{e n:Nat}{s':St}(h:jO kd nr n s)(y:s'.2.2=s.2.2)(u:∀p,Reach e s' p->Reach nr s p)(J:∀i,i<e->sG kd.on n (s'.2.1 i)):jO kd e n s':=
 ⟨J,λp o v Z=>h.h2 p (u p o) v (by simp_all),λc G=>by
  obtain⟨H,T,Y,W⟩:=h.h3 c G;grind⟩
theorem uH{kd:Kd}{n:Nat}(h:jO kd nr n s)(e:Reach nr s p)(i:Nat):sG kd.on n ((s.2.2 p).getD i (0,0))/\(((s.2.2 p).getD i (0,0)).1≠0->Reach nr s ((s.2.2 p).getD i (0,0)).1):=by
 by_cases hi:i<(s.2.2 p).length
 .grind[List.getElem?_eq_getElem,List.getElem_mem,km,B.jO.h2]
 rw[List.getD_eq_getElem?_getD,List.getElem?_eq_none ag];exact⟨Or.inl rfl,λh=>absurd rfl h⟩
def told(kd:Kd)(v:V):Kd:={ kd with cy:=kd.cy.map (λc=>⟨(seen c.m c.st v).1,(seen c.m c.st v).2,c.nx⟩) }
def laid(kd:Kd)(p:Nat):Kd:={ kd with on:=mark kd.on p,cy:=kd.cy.map (λc=>⟨mark c.m p,c.st,c.nx⟩) }
def sh{x i:Nat}(W:Reach nr s p)(J:v.1≠0->Reach nr s v.1){k:Nat}(H:Reach nr (x,s.2.1,lay s.2.2 p ((s.2.2 p).set i v)) k):Reach nr s k:=by
 refine H (Reach nr s) (λi hi y=>kx i hi y) (λj G u o y=>?_);grind[iB,List.mem_or_eq_of_mem_set,km,gh]
def EZ{kd:Kd}{n:Nat}(h:jO kd nr n s)(x p i:Nat)(v:V)(W:Reach nr s p)(hv:sG kd.on n v)(hr:v.1≠0->Reach nr s v.1): jO (told kd ((s.2.2 p).getD i (0,0))) nr n (x,s.2.1,lay s.2.2 p ((s.2.2 p).set i v)):=by
 refine⟨h.h1,λk G u o=>?_,λc hc=>?_⟩
 .have Z:=sh W hr G;by_cases e:k=p
  .subst e;simp only[iB]at o;rcases List.mem_or_eq_of_mem_set o with o|rfl
   .exact h.h2 k Z u o
   exact hv
  simp only[gh _ _ _ _ e]at o;exact h.h2 k Z u o
 have H:kd.cy.map (λc:Cy=>(⟨(seen c.m c.st ((s.2.2 p).getD i (0,0))).1,(seen c.m c.st ((s.2.2 p).getD i (0,0))).2,c.nx⟩:Cy))=some c:=hc;rw[Option.map_eq_some_iff]at H;obtain⟨c0,a0,rfl⟩:=H;obtain⟨hx,T,Y,y⟩:=h.h3 c0 a0;have a1:=Y p W;obtain⟨a,b,d⟩:=yi (v:=(s.2.2 p).getD i (0,0)) y.hc y.hd y.he (λh0=>Y _ ((uH h W i).2 h0));refine⟨hx,T,λk G=>Y k (sh W hr G),y.ha,λk G u o=>?_,a,b,d,λk G=>Hq p i v (y.hf k G),λh0=>?_,y.hh,λk h1 h2 h3=>tD (y.hi k h1 h2 h3)⟩
 .by_cases e:k=p
  .subst e;simp only[iB]at o;rcases List.mem_or_eq_of_mem_set o with o|rfl
   .exact y.hb k G u o
   exact⟨hv,λh0=>Y _ (hr h0)⟩
  simp only[gh _ _ _ _ e]at o;exact y.hb k G u o
 grind[seen,uH,B.kQ.hg,B.kQ.last]
def Aq{kd:Kd}{n:Nat}(h:jO kd nr n s)(hm:∀p,Reach nr s p->on p=true):jO ⟨on,none,kd.un,kd.fo+1,kd.cc⟩ nr n s:=by
 have e:∀v,sG kd.on n v->(v.1≠0->Reach nr s v.1)->sG on n v:=by
  intro v Y H;rcases Y with h|⟨W,h2,h3,Z⟩
  .exact Or.inl h
  exact Or.inr ⟨W,h2,hm _ (H ag),Z⟩
 exact⟨λi hi=>e _ (h.h1 i hi) (λo=>kx i hi o),λk G u y=>e _ (h.h2 k G u y) (λo=>km G y o),λc J=>by cases J⟩
def unit(M:Nat->List V)(on:Nat->Bool)(c:Cy):(Nat->Bool)×Cy:=
 match c.st.getLast? with
 | some p=>(on,BU M c c.st.dropLast p)
 | none=>(ma on c,look c)
def pC{M:Nat->List V}{c:Cy}{e:List Nat}(h:c.st=e++[p]):unit M on c=(on,BU M c e p):=by
 grind[unit]
theorem pD{M:Nat->List V}{c:Cy}(h:c.st=[]):unit M on c=(ma on c,look c):=by
 grind[unit]
def gw(M:Nat->List V)(n:Nat):Nat->Kd->Kd
 | 0,kd=>kd
 | u+1,kd=>
  match kd.cy with
  | none=>kd
  | some c=>gw M n u (if(unit M kd.on c).2.nx=n then⟨(unit M kd.on c).1,none,kd.un+1,kd.fo,kd.cc+1⟩ else⟨(unit M kd.on c).1,some (unit M kd.on c).2,kd.un+1,kd.fo,kd.cc⟩)
def work(R:Nat->V)(nr:Nat)(M:Nat->List V)(n u:Nat)(kd:Kd):Kd:=
 gw M n u (match kd.cy with|none=>{ kd with cy:=some (begun R nr) }|some _=>kd)
def vM{n:Nat}{M:Nat->List V}{c:Cy}{T:Nat->Prop}(h:kQ on n M c T)(hx:c.nx<n):kQ (unit M on c).1 n M (unit M on c).2 T:=by
 rcases List.eq_nil_or_concat c.st with e|⟨i,p,e⟩
 .grind[pD,B.kQ.look]
 rw[List.concat_eq_append]at e;rw[pC e];exact h.BU e
def ow{M:Nat->List V}{c:Cy}(h:(unit M on c).1 p=true):on p=true:=by
 rcases List.eq_nil_or_concat c.st with e|⟨i,q,e⟩
 .rw[pD e]at h;grind[jP]
 rw[List.concat_eq_append]at e;rw[pC e]at h;exact h
def xj{kd kd':Kd}{n:Nat}{T:Nat->Prop}(h:jO kd nr n s)(J:∀p,Reach nr s p->T p)(ho:∀p,T p->kd'.on p=true)(H:∀c,kd'.cy=some c->c.nx<n/\kQ kd'.on n s.2.2 c T):jO kd' nr n s:=by
 have e:∀v,sG kd.on n v->(v.1≠0->Reach nr s v.1)->sG kd'.on n v:=by
  intro v Z W;rcases Z with h|⟨Y,h2,h3,h4⟩
  .exact Or.inl h
  exact Or.inr ⟨Y,h2,ho _ (J _ (W ag)),h4⟩
 exact⟨λi hi=>e _ (h.h1 i hi) (λo=>kx i hi o),λk G u y=>e _ (h.h2 k G u y) (λo=>km G y o),λc h=>⟨(H c h).1,T,J,(H c h).2⟩⟩
def uI{kd:Kd}{n:Nat}(h:jO kd nr n s)(hn:1<=n):jO { kd with cy:=some (begun s.2.1 nr) } nr n s:=
 xj (T:=Reach nr s) h (λ_ h=>h) (λ_ i=>(mI h i).1) (λc e=>by
  grind[begun,ue])
def me(M:Nat->List V)(n:Nat)(kd:Kd)(c:Cy):Kd:=if(unit M kd.on c).2.nx=n then⟨(unit M kd.on c).1,none,kd.un+1,kd.fo,kd.cc+1⟩ else⟨(unit M kd.on c).1,some (unit M kd.on c).2,kd.un+1,kd.fo,kd.cc⟩
def su{kd:Kd}{n:Nat}{c:Cy}(h:jO kd nr n s)(u:kd.cy=some c):jO (me s.2.2 n kd c) nr n s:=by
 obtain⟨J,T,G,W⟩:=h.h3 c u;have e:=vM W J;unfold me;split
 .exact xj (T:=T) h G (λp o=>(e.ha p o).2.2) (λc u=>by cases u)
 rename_i y;refine xj (T:=T) h G (λp o=>(e.ha p o).2.2) (λH i=>?_);have:(unit s.2.2 kd.on c).2=H:=by injection i
 subst this;exact⟨Nat.lt_of_le_of_ne e.hh y,e⟩
def tX{M:Nat->List V}{n u:Nat}{kd:Kd}{c:Cy}(h:kd.cy=some c):gw M n (u+1) kd=gw M n u (me M n kd c):=by
 rw[gw,h];rfl
theorem tY{M:Nat->List V}{n u:Nat}{kd:Kd}(h:kd.cy=none):gw M n u kd=kd:=by
 cases u with
 | zero=>rfl
 | succ u=>rw[gw,h]
end B
section
variable {ad:Option Addr}{cap:Nat}{e:TypeId}{o:Oper}{w:aa}{xs:List Value}
def gd(w:aa)(e:TypeId)(v:Value)(xs:List Value):Prop:=
 (v=.slice none 0 0/\xs=[]) \/
 ∃g off cap n P,v=.slice (some ⟨g,off,none⟩) xs.length cap/\xs.length<=cap/\cap<=maxLen/\off+cap<=n/\Full w g e n (off+xs.length) P/\∀j u,xs[j]? = some u->P (off+j)=u
theorem gd.lt{w:aa}{e:TypeId}{v:Value}{xs:List Value}(h:gd w e v xs):∀k,v.ownBlock=some k->k<w.heap.size:=by
 intro k i;rcases h with⟨rfl,_⟩|⟨g,off,cap,n,P,rfl,_,_,_,o,_⟩
 .simp[Value.ownBlock]at i
 simp[Value.ownBlock]at i;subst i;exact o.lt
theorem gd.block{w w':aa}{e:TypeId}{v:Value}{xs:List Value}(h:gd w e v xs)(u:∀k,v.ownBlock=some k->w'.heap[k]? = w.heap[k]?):gd w' e v xs:=by
 rcases h with h|⟨g,off,cap,n,P,rfl,o,G,y,i,hP⟩
 .exact af h
 exact ah ⟨g,off,cap,n,P,rfl,o,G,y,i.block (u g rfl),hP⟩
theorem gd.cell{w:aa}{e:TypeId}{g off len cap:Nat}{xs:List Value}(h:gd w e (.slice (some (ay g off)) len cap) xs):len=xs.length/\∀j u,xs[j]? = some u->w.cell? (ay g (off+j))=some u:=by
 rcases h with⟨h,_⟩|⟨g',H,G,n,P,h,h1,h2,h3,J,hP⟩
 .cases h
 grind[Nat.lt_or_ge,List.getElem?_eq_none,Full.cell]
def gd.nil(w:aa)(e:TypeId):gd w e (.slice none 0 0) []:=af ⟨rfl,rfl⟩
theorem gd.pop{x:Value}(h:gd w e (.slice ad (xs.length+1) cap) (xs++[x])): ∃g off,ad=some (ay g off)/\g<w.heap.size/\xs.length+1<=cap/\w.cell? (ay g (off+xs.length))=some x/\gd w e (.slice ad xs.length cap) xs:=by
 rcases h with⟨_,h⟩|⟨g,off,J,n,P,h,Y,h2,h3,i,hP⟩
 .grind
 injection h with a b c;subst a c;simp only[cw,eI]at Y i;refine⟨g,off,rfl,i.lt,Y,?_,ah ⟨g,off,cap,n,P,rfl,ag,h2,h3,?_,λj u y=>hP j u ?_⟩⟩
 .grind[Full.cell]
 .obtain⟨o,f1,f2,Z⟩:=i;exact⟨o,f1,f2,λj W=>Z j ag⟩
 grind
def gd.ty{v:Value}(h:gd w e v xs)(k:Nat)(o:v.ownBlock=some k):∃i,w.heap[k]? = some (.cells i e (0,0)):=by
 rcases h with⟨rfl,_⟩|⟨g,off,cap,n,P,rfl,_,_,_,⟨i,u,_⟩,_⟩
 .simp[Value.ownBlock]at o
 grind[Value.ownBlock]
def wR{P:Program}(w:aa)(t ty e:TypeId)(i:TypeInfo)(z:Value)(bytes:Nat)(ht:P.underlying t=some (.slice e))(hi:P.info? e=some i)(hz:i.zero=some z)(H:i.size=1)(a8:i.bytes=bytes)(a7:z.cells.size=1)(v:Value)(xs:List Value)(hq:gd w e v xs)(ad:Addr)(c:Nat)(y:Value)(hy:w.cell? ad=some y)(h1:y.oneCell'=true)(hm:xs.length+1<=maxLen)(Y:(xs.length+1)*bytes<=140737488355328): ∃g off cap w',(Builtin.append_ #[t,t] ty #[v,.slice (some ad) 1 c]).run P w=.ok (.slice (some (ay g off)) (xs.length+1) cap) w'/\gd w' e (.slice (some (ay g off)) (xs.length+1) cap) (xs++[y])/\w.grownBy w' v.ownBlock/\(v.ownBlock=some g\/g=w.heap.size):=by
 have a0:∀j u,[y][j]? = some u->w.cell? (ad.add j)=some u:=by
  intro j u o;match j,o with
  | 0,o=>grind[Addr.add]
 have hs:Src P i.size t (.slice (some ad) 1 c) 1 [y] w:=Src.ofSlice w ht ad 1 c [y] eR a0 eR;have grown:∀(b:Option Addr) (G:Nat),v=.slice b xs.length G->G<xs.length+1->(∀j u,xs[j]? = some u->∃a,b=some a/\w.cell? (a.add j)=some u)->∃g off cap w',(Builtin.append_ #[t,t] ty #[v,.slice (some ad) 1 c]).run P w=.ok (.slice (some (ay g off)) (xs.length+1) cap) w'/\gd w' e (.slice (some (ay g off)) (xs.length+1) cap) (xs++[y])/\w.grownBy w' v.ownBlock/\(v.ownBlock=some g\/g=w.heap.size):=by
  intro b G hv ho hc;subst hv;have a4:(Builtin.firstCells i.size xs.length (.slice b xs.length G)).run P w.drew=.ok xs.toArray w.drew:=by
   match b,hc with
   | none,hc=>
    have hx:xs=[]:=by
     cases xs with
     | nil=>rfl
     | cons a l=>obtain⟨_,h,_⟩:=hc 0 a rfl;cases h
    grind[run_firstCells_none]
   | some a,hc=>exact run_firstCells_some w.drew i.size xs.length a xs.length G xs eR (λj u o=>by simp_all)
  have hr:=run_append_grow_src (P:=P) w t t ty e i z ht hi hz b xs.length G xs a4 _ 1 [y] hs ho (by grind[maxLen]) (by rw[a8];exact growslice_fits ho Y);have Z:=grownCap_ge w (xs.length+1) G e;have a2:=grownCap_le_maxLen w (xs.length+1) G e hm;refine⟨_,_,_,_,hr,ah ⟨w.heap.size,0,_,grownCap w (xs.length+1) G e,λj=>(xs++[y]).getD j y,eB,eR,a2,ag,⟨_,bl w.drew _,?_,λj J=>?_⟩,λj u o=>?_⟩,⟨rfl,rfl,rfl,eB,λk hk _=>Go.heap_alloc_old w.drew _ hk⟩,ah rfl⟩
  .simp only[Array.size_append,List.size_toArray,size_zeroCells,a7,cw,List.length_cons,List.length_nil];omega
  .grind
  show(xs++[y]).getD (0+j) y=u;rw[Nat.zero_add,cr,o];rfl
 rcases hq with⟨rfl,rfl⟩|⟨g,off,cap,n,Q,rfl,aB,a2,hn,hF,hP⟩
 .grind
 by_cases W:xs.length+1<=cap
 .have hk:off+xs.length<n:=ag;have a3:=(hF.congr (Q:=eC Q (off+xs.length) y) (λj J=>(eN _ _ _ _ ag).symm)).set hk;rw[gO]at a3;obtain⟨aA,hh,a5,_⟩:=hF;have hr:=run_append_room_src (P:=P) w t t ty e i ht hi g off xs.length cap _ 1 [y] hs W (by
   intro j J;simp at J;subst J
   rw[H,Nat.mul_one,Nat.add_zero];grind[World.cell?]) (by
   grind[World.frozen?])
  rw[H,Nat.mul_one]at hr;refine⟨g,off,cap,_,hr,ah ⟨g,off,cap,n,eC Q (off+xs.length) y,eB,eR,a2,hn,?_,λj u o=>?_⟩,?_,af rfl⟩
  .rw[cw];exact a3
  .grind[List.getElem?_append_left,eN,List.getElem?_append_right,Nat.lt_or_ge,List.getElem?_eq_none,gO]
  exact bu (a:=ay g (off+xs.length)) (aw _ _) (af rfl) y
 refine grown (some (ay g off)) cap rfl ag (λj u o=>⟨_,rfl,?_⟩);have J:j<xs.length:=by
  rcases Nat.lt_or_ge j xs.length with a6|Z
  .exact a6
  rw[dK Z]at o;cases o
 have:=hF.cell (off+j) ag;rw[hP j u o]at this;rw[Addr.add_lit];exact this
theorem sI{P:Program}(w:aa){a:Act}{K:Act->aa->Prop}{Q:Exit->Act->aa->Prop}(s x:Operand)(t:TypeId)(ho:o.op=.call { callee:=.builtin .append,args:=#[s,x],argTypes:=#[t,t] })(e:TypeId)(i:TypeInfo)(z:Value)(bytes:Nat)(ht:P.underlying t=some (.slice e))(hi:P.info? e=some i)(hz:i.zero=some z)(G:i.size=1)(H:i.bytes=bytes)(J:z.cells.size=1)(v:Value)(xs:List Value)(hs:a.eval s=v)(hq:gd w e v xs)(ad:Addr)(c:Nat)(y:Value)(hx:a.eval x=.slice (some ad) 1 c)(Y:w.cell? ad=some y)(Z:y.oneCell'=true)(hm:xs.length+1<=maxLen)(u:(xs.length+1)*bytes<=140737488355328)(h:∀g off cap w',gd w' e (.slice (some (ay g off)) (xs.length+1) cap) (xs++[y])->w.grownBy w' v.ownBlock->(v.ownBlock=some g\/g=w.heap.size)->K (a.put o.dst (.slice (some (ay g off)) (xs.length+1) cap)) w'):o.wp P a w K Q:=by
 obtain⟨g,off,cap,w',W,h2,h3,h4⟩:=wR (P:=P) w t o.type e i z bytes ht hi hz G H J v xs hq ad c y Y Z hm u;unfold Oper.wp execOp;simp only[ho,resolve,invoke,builtin,Sem.run_bind,Sem.run_pure,Result.andThen_ok,List.map_toArray,List.map_cons,List.map_nil,hs,hx,W];exact h g off cap w' h2 h3 h4
def jf{P:Program}(w:aa){ops:Array Oper}{rest:List Oper}{a:Act}{Q:Exit->Act->aa->Prop}(J:o.guard=none)(s x:Operand)(t:TypeId)(ho:o.op=.call { callee:=.builtin .append,args:=#[s,x],argTypes:=#[t,t] })(e:TypeId)(i:TypeInfo)(z:Value)(bytes:Nat)(ht:P.underlying t=some (.slice e))(hi:P.info? e=some i)(hz:i.zero=some z)(G:i.size=1)(H:i.bytes=bytes)(W:z.cells.size=1)(v:Value)(xs:List Value)(hs:a.eval s=v)(hq:gd w e v xs)(ad:Addr)(c:Nat)(y:Value)(hx:a.eval x=.slice (some ad) 1 c)(Y:w.cell? ad=some y)(Z:y.oneCell'=true)(hm:xs.length+1<=maxLen)(u:(xs.length+1)*bytes<=140737488355328)(h:∀g off cap w',gd w' e (.slice (some (ay g off)) (xs.length+1) cap) (xs++[y])->w.grownBy w' v.ownBlock->(v.ownBlock=some g\/g=w.heap.size)->wpList P ops Q rest (a.put o.dst (.slice (some (ay g off)) (xs.length+1) cap)) w'):wpList P ops Q (o :: rest) a w:=
 wpList_plain J λ_ hK=>sI w s x t ho e i z bytes ht hi hz G H W v xs hs hq ad c y hx Y Z hm u λg off cap w' h2 h3 h4=>hK _ _ (h g off cap w' h2 h3 h4)
def lI{P:Program}(w:aa){ops:Array Oper}{a:Act}{K:Act->aa->Prop}{Q:Exit->Act->aa->Prop}{E:Prop}(J:o.guard=none)(s x:Operand)(t:TypeId)(ho:o.op=.call { callee:=.builtin .append,args:=#[s,x],argTypes:=#[t,t] })(e:TypeId)(i:TypeInfo)(z:Value)(bytes:Nat)(ht:P.underlying t=some (.slice e))(hi:P.info? e=some i)(hz:i.zero=some z)(G:i.size=1)(H:i.bytes=bytes)(W:z.cells.size=1)(v:Value)(xs:List Value)(hs:a.eval s=v)(hq:gd w e v xs)(ad:Addr)(c:Nat)(y:Value)(hx:a.eval x=.slice (some ad) 1 c)(Y:w.cell? ad=some y)(Z:y.oneCell'=true)(hm:xs.length+1<=maxLen)(u:(xs.length+1)*bytes<=140737488355328)(h:∀g off cap w',gd w' e (.slice (some (ay g off)) (xs.length+1) cap) (xs++[y])->w.grownBy w' v.ownBlock->(v.ownBlock=some g\/g=w.heap.size)->K (a.put o.dst (.slice (some (ay g off)) (xs.length+1) cap)) w'): if Region.wanted o (yielded ops a.tmps)=true then Oper.wp P o a w K Q else E:=by
 rw[bf (by simp[Region.wanted,J])];grind[sI]
def vz(k:Bool):Value:=.int .u8 (if k=true then 1 else 0)
def qo(k:Bool)(vb ln:Nat):Value:=if k=true then .slice (some ⟨vb,0,none⟩) ln ln else .slice none 0 0
def jI(kd:Nat->Bool)(vb:Nat->Nat)(M:Nat->List B.V):Nat->Value:=λj=>
 if j % 3=0 then vz (kd (j / 3+1)) else if j % 3=1 then .int .i64 0 else qo (kd (j / 3+1)) (vb (j / 3+1)) (M (j / 3+1)).length
abbrev lM(M:Nat->List B.V)(p:Nat):Nat->B.V:=λi=>(M p).getD i (0,0)
structure oW(w:aa) (pb n:Nat) (on:Nat->Bool) (f:Nat->Nat) (M:Nat->List B.V):Prop where
 p:Full w pb 228 (n*3) (n*3) (jI on f M)
 s:∀p,1<=p->p<=n->on p=true->Full w (f p) 149 ((M p).length*2) ((M p).length*2) (eQ (lM M p))
 i:∀p q,1<=p->p<=n->1<=q->q<=n->on p=true->on q=true->f p=f q->p=q
 l:∀p,on p=true->(M p).length<=8
theorem oW.block{w w':aa}{pb n:Nat}{on:Nat->Bool}{f:Nat->Nat}{M:Nat->List B.V}(h:oW w pb n on f M)(o:w'.heap[pb]? = w.heap[pb]?)(e:∀p,1<=p->p<=n->on p=true->w'.heap[f p]? = w.heap[f p]?):oW w' pb n on f M:=
 ⟨h.p.block o,λp a b c=>(h.s p a b c).block (e p a b c),h.i,h.l⟩
def oi(st:List Nat):List Value:=st.map (λp=>.int .i64 ((p-1:Nat):Int))
def wN(e:List Nat):(oi e).length=e.length:=by simp[oi]
def AM(a b:List Nat):oi (a++b)=oi a++oi b:=by simp[oi]
structure mV(w:aa) (cb rd sb n:Nat) (ad:Option Addr) (cap:Nat) (c:B.Cy):Prop where
 b:w.heap[cb]? = some (.cells #[P0 sb,.slice (some ⟨rd,0,none⟩) n n,.slice ad c.st.length cap,.int .i64 c.nx] 275 (0,0))
 r:Full w rd 4 n n (λj=>.bool (c.m (j+1)))
 q:gd w 3 (.slice ad c.st.length cap) (oi c.st)
def fi(ad:Option Addr):Option Nat:=ad.map (·.block)
theorem dF(ad:Option Addr)(n c:Nat):(Value.slice ad n c).ownBlock=fi ad:=by cases ad<;>rfl
def oT(cb rd:Nat)(ad:Option Addr)(k:Nat):Prop:=k=cb\/k=rd\/fi ad=some k
theorem mV.block{w w':aa}{cb i sb n:Nat}{ad:Option Addr}{cap:Nat}{c:B.Cy}(h:mV w cb i sb n ad cap c)(o:∀k,oT cb i ad k->w'.heap[k]? = w.heap[k]?):mV w' cb i sb n ad cap c:=
 ⟨(o cb (af rfl)).trans h.b,h.r.block (o i (ah (af rfl))),h.q.block (λk e=>o k (ah (ah (by rw[<-dF ad c.st.length cap];exact e))))⟩
theorem mV.lt{w:aa}{cb i sb n:Nat}{ad:Option Addr}{cap:Nat}{c:B.Cy}(h:mV w cb i sb n ad cap c)(k:Nat)(e:oT cb i ad k):k<w.heap.size:=by
 rcases e with rfl|rfl|e
 .exact ch h.b
 .exact h.r.lt
 exact h.q.lt k (eV dF e)
theorem mV.ty{w:aa}{cb u sb n:Nat}{ad:Option Addr}{cap:Nat}{c:B.Cy}(h:mV w cb u sb n ad cap c)(k:Nat)(i:oT cb u ad k):∃e T,w.heap[k]? = some (.cells e T (0,0))/\(T=275\/T=4\/T=3):=by
 rcases i with rfl|rfl|i
 .exact⟨_,_,h.b,af rfl⟩
 .obtain⟨e,o,_⟩:=h.r;exact⟨_,_,o,ah (af rfl)⟩
 obtain⟨e,o⟩:=h.q.ty k (eV dF i);exact⟨_,_,o,ah (ah rfl)⟩
def mV.kept{w':aa}{cb i sb n:Nat}{c:B.Cy}(h:mV w cb i sb n ad cap c)(u:w.grownBy w' none):mV w' cb i sb n ad cap c:=
 h.block (λk o=>u.block k (h.lt k o) im)
structure Vs where
 f:Nat->Nat
 cb:Nat
 rd:Nat
 ad:Option Addr
 cap:Nat
variable {ad:Option Addr}{cb e sz:Nat}{w:aa}
def BJ:Vs:=⟨λ_=>0,0,0,none,0⟩
def zE(kd:B.Kd)(vb:Vs):Value:=if kd.cy.isSome=true then P0 vb.cb else .pointer none
structure kD(w:aa) (sb pb eb n:Nat) (kd:B.Kd) (vb:Vs) (M:Nat->List B.V):Prop where
 b:w.heap[sb]? = some (.cells #[.slice (some ⟨pb,0,none⟩) n n,.func (.func 59) #[P0 eb] #[],zE kd vb,.int .i64 (wrap64 (kd.un:Int)),.int .i64 (wrap64 (kd.fo:Int)),.int .i64 (wrap64 (kd.cc:Int))] 207 (0,0))
 p:oW w pb n kd.on vb.f M
 c:∀c,kd.cy=some c->mV w vb.cb vb.rd sb n vb.ad vb.cap c
def Own(n:Nat)(kd:B.Kd)(vb:Vs)(k:Nat):Prop:=(∃p,1<=p/\p<=n/\kd.on p=true/\vb.f p=k)\/(kd.cy.isSome=true/\oT vb.cb vb.rd vb.ad k)
theorem kD.block{w w':aa}{sb pb eb n:Nat}{kd:B.Kd}{vb:Vs}{M:Nat->List B.V}(h:kD w sb pb eb n kd vb M)(u:w'.heap[sb]? = w.heap[sb]?)(y:w'.heap[pb]? = w.heap[pb]?)(i:∀k,Own n kd vb k->w'.heap[k]? = w.heap[k]?):kD w' sb pb eb n kd vb M:=
 ⟨u.trans h.b,h.p.block y (λp a b c=>i _ (af ⟨p,a,b,c,rfl⟩)),λc e=>(h.c c e).block (λk o=>i k (ah ⟨jx e,o⟩))⟩
def eE{a b:Nat}{x y:Array Value}{S T:TypeId}{f g:Nat×Nat}(i:w.heap[a]? = some (.cells x S f))(e:w.heap[b]? = some (.cells y T g))(h:S≠T):a≠b:=by
 rintro rfl;rw[i]at e;injection e with e;injection e with _ e _;exact h e
def sV(sb:Nat)(x:Int)(w:aa):dD 202 #[P0 sb,vA (0,x)] w (.agg #[dy 0,aj 0,.slice none 0 0]) λw'=>w.grownBy w' none:=by
 have hi:=oE (0,x);simp only[ne_eq,not_true,decide_false]at hi;have H:=bj hi;delta dD;go_in;go_wp2_with fail
 refine du (H _) λw1 o=>?_;have i:w1.heap[w.heap.size+1]? = some (.cells #[dy 0,aj 0,.slice none 0 0] 228 (0,0)):=by
  refine(o.block _ eB im).trans ?_;have:=bl (w.alloc (.cells #[aj ((0:Nat):Int),aj x] 149)) (.cells #[dy 0,aj 0,.slice none 0 0] 228);simpa using this
 have u:=bj (ar (ax (ak w _ none) _) o);have G:dS w1 (w.heap.size+1) 0=some (dy 0):=fy i
 have J:dS w1 (w.heap.size+1) 1=some (aj 0):=fy i;have y:dS w1 (w.heap.size+1) 2=some (.slice none 0 0):=fy i;have t0:w1.frozen? (ay (w.heap.size+1) 0)=false:=qE i;have Z:w1.frozen? (ay (w.heap.size+1) 1)=false:=qE i;have Y:w1.frozen? (ay (w.heap.size+1) 2)=false:=qE i;clear o i;go_wp2
 refine dg (v:=.agg #[dy 0,aj 0,.slice none 0 0]) (by simp[results,results202,go_sem,G,J,y]) rfl ⟨rfl,?_⟩;repeat (first|exact u|refine bo ?_|refine ax ?_ _|refine bu ?_ (ah eB) _)
def Tryz.IC:(prog.info? 3).map (λi=>(i.zero,i.size,i.bytes))=some (some (aj 0),1,8):=by kernel_rfl
def mV.c1{sb n:Nat}{cap:Nat}{c:B.Cy}(h:mV w cb e sb n ad cap c):w.cell? (ay cb 0)=some (P0 sb)/\w.cell? (ay cb 1)=some (dA e n n)/\w.cell? (ay cb 2)=some (.slice ad c.st.length cap)/\w.cell? (ay cb 3)=some (aj c.nx)/\w.frozen? (ay cb 2)=false/\w.frozen? (ay cb 3)=false:=by
 simp[World.cell?,World.frozen?,h.b]
def xG(ad ad':Option Addr)(sz:Nat):Prop:=∀k,fi ad'=some k->fi ad=some k\/sz<=k
theorem xG.refl(ad:Option Addr)(sz:Nat):xG ad ad sz:=λ_ h=>af h
theorem xG.trans{a b c:Option Addr}(h:xG a b sz)(u:xG b c e)(y:sz<=e):xG a c sz:=λk o=>by
 rcases u k o with i|i
 .exact h k i
 omega
def xG.J1{o:Nat}{i:Option Addr}{k:Nat}(h:xG ad i sz)(u:oT cb o i k):oT cb o ad k\/sz<=k:=by
 rcases u with e|e|e
 .exact af (af e)
 .exact af (ah (af e))
 exact(h k e).imp (λh=>ah (ah h)) id
def El{S:Nat->Prop}{w':aa}{r:Option Nat}(h:w.grownBy w' r)(o:∀k,r=some k->k<w.heap.size->S k):dM S w w':=
 ⟨h.os,h.tape,h.output,h.size,λk i hn=>h.block k i (λe=>hn (o k e.symm i))⟩
def sj(cb u sb n:Nat)(ad:Option Addr)(cap:Nat)(c:B.Cy)(v:B.V)(w:aa)(hC:mV w cb u sb n ad cap c)(hv:v.1≠0->v.1<=n)(hn:n<=200)(bX:c.st.length<=200): Calls prog 188 #[P0 cb,vA v] w λe w'=>e=.returned (.tuple #[])/\∃b5 a0,xG ad b5 w.heap.size/\mV w' cb u sb n b5 a0 ⟨(B.seen c.m c.st v).1,(B.seen c.m c.st v).2,c.nx⟩/\dM (oT cb u ad) w w':=by
 have KC:=bj hC;have aC:=bj (oE v);obtain⟨v1,v2⟩:=v;by_cases h0:v1=0
 .subst h0;have aT:B.seen c.m c.st (0,v2)=(c.m,c.st):=by unfold B.seen;rw[au eB]
  rw[aT];have hi:=aC.out;simp only[ne_eq,not_true,decide_false]at hi;have HI:=bj hi;clear aT hC hv hi aC;go_in;go_wp2_with fail
  have o:=bj (ak w (.cells #[.int .i64 ((0:Nat):Int),.int .i64 v2] 149) none);first|go_region_with (go_at_call 198;refine(HI _).mono ?_;rintro e w2 ⟨rfl,i⟩;have a5:=bj (ar o ⟨i.os,i.tape,i.output,i.size,i.block⟩);clear i)|fail
  all_goals
   go_wp2_with fail
   go_end0;exact⟨rfl,ad,cap,xG.refl _ _,KC.kept a5,ep a5⟩
 obtain⟨k,hk⟩:∃k,v1=k+1:=⟨v1-1,ag⟩;subst hk;have aM:k<n:=by have:=hv eB;simp only at this;omega
 have hi:=aC.out;have hd:decide (k+1≠0)=true:=eB
 rw[show((k+1,v2):B.V).1=k+1 from rfl,hd]at hi;have HI:=bj hi;have aL:=bj (nT k v2 ag);obtain⟨_,c1,_⟩:=hC.c1;have lc:=ch hC.b;have lr:=hC.r.lt;have r0:=hC.r.cell k aM;clear hC hv hi hd aC h0;generalize b0:c.m (k+1)=b at *;have aY:=bj b0;clear b0;have bV:(k:Int)<n:=ag
 go_in;go_wp2_with fail
 generalize hW:w.alloc (.cells #[.int .i64 ((k:Int)+1),.int .i64 v2] 149)=w1;have o:Hid (w.grownBy w1 none):=by rw[<-hW];exact ak _ _ _
 have a9:w1.heap[w.heap.size]? = some (.cells #[.int .i64 ((k:Int)+1),.int .i64 v2] 149 (0,0)):=by rw[<-hW];exact bl w _
 have lx:=ch a9;have v0:w1.cell? ⟨w.heap.size,0,none⟩=some (.int .i64 ((k:Int)+1)):=fy a9
 have v1:w1.cell? ⟨w.heap.size,1,none⟩=some (.int .i64 v2):=fy a9;clear hW a9;have d1:=(bd o (a:=⟨cb,1,none⟩) lc).1.trans c1;have q0:=(bd o (a:=⟨u,k,none⟩) lr).1.trans r0;have HS:Hid (∀w':aa,w1.grownBy w' none->(w'.cell? ⟨w.heap.size,0,none⟩=some (.int .i64 ((k:Int)+1))/\w'.cell? ⟨w.heap.size,1,none⟩=some (.int .i64 v2)/\w'.cell? ⟨cb,1,none⟩=some (.slice (some ⟨u,0,none⟩) n n)/\w'.cell? ⟨u,k,none⟩=some (.bool b))/\(w.heap.size<w'.heap.size/\cb<w'.heap.size/\u<w'.heap.size)):=
  λw' Z=>⟨⟨(bd Z (a:=⟨w.heap.size,0,none⟩) lx).1.trans v0,(bd Z (a:=⟨w.heap.size,1,none⟩) lx).1.trans v1,(bd Z (a:=⟨cb,1,none⟩) (by show cb<_;omega)).1.trans d1,(bd Z (a:=⟨u,k,none⟩) (by show u<_;omega)).1.trans q0⟩,gp Z.size,gp Z.size,gp Z.size⟩
 clear c1 r0 d1 q0 v0 v1;obtain⟨⟨v0,v1,d1,q0⟩,z1,z2,z3⟩:=HS w1 (aw _ _);go_cut [16] from 4 to 15 (λx wx=>x=.bool (!b)/\Hid (w1.grownBy wx none))
 case first=>
  first|go_region_with (first|(go_at_call 198;refine(HI _).mono ?_;rintro e w2 ⟨rfl,i⟩;have a5:Hid (w1.grownBy w2 none):=⟨i.os,i.tape,i.output,i.size,i.block⟩;obtain⟨⟨aB,a8,aH,aI⟩,aK,aJ,aG⟩:=HS w2 a5;clear i)|(go_at_call 201;refine(aL _).mono ?_;rintro e w3 ⟨rfl,a1⟩;have J:=bj (ar a5 ⟨a1.os,a1.tape,a1.output,a1.size,a1.block⟩);obtain⟨⟨bS,bM,bQ,bP⟩,bR,bO,bN⟩:=HS w3 J;clear a1))|fail
  all_goals
   go_wp2_with fail
   go_meet
   case rel=>exact⟨rfl,J⟩
 case rest=>
  obtain⟨rfl,J⟩:=hcut;clear v0 v1 d1 q0 z1 z2 z3
  cases b
  .have aO:Hid (B.seen c.m c.st (k+1,v2)=(B.mark c.m (k+1),c.st++[k+1])):=by show _=_;unfold B.seen;rw[bf ⟨eB,aY⟩]
   obtain⟨⟨v0,v1,d1,q0⟩,z1,z2,z3⟩:=HS wc J;have f0:wc.frozen? ⟨u,k,none⟩=false:=by
    have h:=(KC.kept o).kept J;exact(h.r.cells k aM).2
   go_wp2_with fail
   generalize bK:wc=wd at *;clear bK;go_cut [] from 17 to 23 (λwx=>∃w4,Hid (w1.grownBy w4 none)/\wx=w4.setCell ⟨u,k,none⟩ (.bool true))
   case first=>
    go_region_with (go_at_call 201;refine(aL _).mono ?_;rintro e w4 ⟨rfl,a2⟩;have Y:=bj (ar J ⟨a2.os,a2.tape,a2.output,a2.size,a2.block⟩);obtain⟨⟨aB,a8,aH,aI⟩,aK,aJ,aG⟩:=HS w4 Y;have bW:=(((KC.kept o).kept Y).r.cells k aM).2;clear a2)
    all_goals
     go_wp2_with fail
     go_meet
     case rel=>exact⟨w4,Y,rfl⟩
   case rest=>
    obtain⟨w4,Y,a6⟩:=hcut;have G:=(KC.kept o).kept Y;obtain⟨⟨aB,a8,aH,aI⟩,aK,aJ,aG⟩:=HS w4 Y;have bE:wc.heap.size=w4.heap.size:=by rw[a6];simp[World.setCell]
    have a7:∀x,x≠u->wc.heap[x]? = w4.heap[x]?:=λx y=>by rw[a6,ab _ _ _ _ y]
    have b6:cb≠u:=by obtain⟨cu,h,_⟩:=G.r;exact eE G.b h ek
    have aV:w.heap.size≠u:=ag;have aA:=bj ((a7 cb b6).trans G.b);have HR:Hid (Full wc u 4 n n (λj=>.bool (B.mark c.m (k+1) (j+1)))):=by
     have h1:=G.r.eC k (.bool true);rw[<-a6]at h1;refine h1.congr (λj _=>?_);by_cases e:j=k
     .subst e;rw[gO,B.kh]
     rw[eN _ _ _ _ e,B.fZ _ _ _ ag]
    have HQ:Hid (gd wc 3 (.slice ad c.st.length cap) (oi c.st)):=G.q.block (λx y=>a7 x (by
     obtain⟨cu,h⟩:=G.q.ty x y;obtain⟨bY,h',_⟩:=G.r;exact eE h h' ek))
    have bB:Hid (dM (oT cb u ad) w wc):=by
     show dM _ _ _;rw[a6];exact bp (ep (ar o Y)) (af (ah (af rfl))) _
    have x0:=(az (a:=⟨w.heap.size,0,none⟩) (a7 _ aV)).trans aB;have x1:=(az (a:=⟨w.heap.size,1,none⟩) (a7 _ aV)).trans a8;have y2:wc.cell? ⟨cb,2,none⟩=some (.slice ad c.st.length cap):=fy aA.out
    have g2:wc.frozen? ⟨cb,2,none⟩=false:=qE aA.out;have bU:w.heap.size<wc.heap.size:=ag;have aF:cb<wc.heap.size:=ag;have bZ:w.heap.size<=wc.heap.size:=ag;have aE:(oi c.st).length=c.st.length:=wN _;have hL:oi (c.st++[k+1])=oi c.st++[.int .i64 k]:=jx AM
    have HL:=bj hL;have bD:Hid (fi ad≠some cb):=λe=>by
     obtain⟨cu,h⟩:=HQ.ty cb (eV dF e);exact eE aA h ek rfl
    have a4:=bj aE;clear G a7 a6 aB a8 aH aI v0 v1 d1 q0 f0 z1 z2 z3 aK aJ aG bE hL aE;obtain⟨i0,hi,bC,aS,bL⟩:=info_parts Tryz.IC;have bF:Hid (∀w':aa,wc.grownBy w' none->w'.cell? ⟨cb,2,none⟩=some (.slice ad c.st.length cap)/\w'.frozen? ⟨cb,2,none⟩=false/\cb<w'.heap.size):=λw' Z=>⟨(bd Z (a:=⟨cb,2,none⟩) aF).1.trans y2,(bd Z (a:=⟨cb,2,none⟩) aF).2.trans g2,dm aF Z.size⟩;have b4:(oi c.st).length+1<=maxLen:=by rw[a4.out];unfold maxLen;omega
    have aU:((oi c.st).length+1)*8<=140737488355328:=kr a4.out;have aW:=bj (bh b4 aU);clear b4 aU;rw[<-a4.out]at y2;go_wp2_with fail
    go_region_law (first|(refine lI _ rfl (.tmp 28) (.tmp 31) 54 rfl 3 i0 _ 8 underlying54 hi bC aS bL rfl (.slice ad (oi c.st).length cap) (oi c.st) mB (b7) ⟨w5.heap.size,0,none⟩ 1 (.int .i64 k) mB (by simp[go_sem]) rfl aW.1 aW.2 ?_;intro g off a0 w6 b3 aN aP;have aZ:=bj b3;have aR:=bj aN;have b9:=bj aP;have H:=(aN.block cb fH (by rw[dF];exact λe=>bD e.symm)).trans ((av _ _ _ z5).trans (da W aA im));have y6:w6.cell? ⟨cb,2,none⟩=some (.slice ad c.st.length cap):=(by simp[World.cell?,H]);have g6:w6.frozen? ⟨cb,2,none⟩=false:=(by simp[World.frozen?,H]);have aD:=bj H;clear b3 aN aP H)|(go_simp;go_at_call 201;refine(aL _).mono ?_;rintro e w5 ⟨rfl,a3⟩;have W:Hid (wc.grownBy w5 none):=⟨a3.os,a3.tape,a3.output,a3.size,a3.block⟩;obtain⟨y5,g5,z5⟩:=bF w5 W;have b7:Hid (gd (w5.alloc (.cells #[.int .i64 k] 3)) 3 (.slice ad (oi c.st).length cap) (oi c.st)):=(by rw[a4.out];exact HQ.block (λx y=>(av _ _ _ (dm (HQ.lt x y) W.size)).trans (W.block x (HQ.lt x y) im)));rw[<-a4.out]at y5;clear a3;simp only[]))
    all_goals
     go_wp2_with fail
     go_end0;have bA:=W.size;have aX:=a4.out;obtain⟨bJ,b1,bI⟩:=id HR;have aQ:∀(x:Nat) (b2:Array Value) (T:TypeId),wc.heap[x]? = some (.cells b2 T (0,0))->T≠3->x≠cb->(w6.setCell ⟨cb,2,none⟩ (.slice (some ⟨g,off,none⟩) ((oi c.st).length+1) a0)).heap[x]? = wc.heap[x]?:=by
      intro x b2 T y hT b8;have bG:x<w5.heap.size:=dm (ch y) bA;rw[ab _ _ _ _ b8,aR.block x fH (λe=>?_),av _ _ _ bG]
      .exact W.block x (ch y) im
      obtain⟨cu,h⟩:=HQ.ty x (by rw[dF];rw[dF]at e;exact e.symm);rw[y]at h;injection h with h;injection h with _ h _;exact hT h
     have bH:g≠cb:=by
      obtain⟨cu,h⟩:=aZ.ty g rfl;exact eE h aD ek
     refine⟨rfl,some ⟨g,off,none⟩,a0,λx y=>?_,?_,?_⟩
     .have e:g=x:=by injection y
      subst e;rcases b9 with h|h
      .rw[dF]at h;exact af h
      right;simp at h;omega
     .rw[aO.out];refine⟨?_,⟨bJ,(aQ u _ _ b1 ek (λe=>b6 e.symm)).trans b1,bI⟩,?_⟩
      .simp[World.setCell,dh,aD.out,aX]
      show gd _ _ (.slice _ (c.st++[k+1]).length _) (oi (c.st++[k+1]));rw[HL.out,cw,eI,<-aX];refine aZ.block (λx y=>ab _ _ _ _ ?_);have e:g=x:=by injection y
      subst e;exact bH
     refine bp ?_ (af (af rfl)) _;refine((bB.iW W).iW (ak _ _ _)).trans (El (S:=oT cb u ad) aR (λx y _=>ah (ah (by rw[dF]at y;exact y)))) (λ_ h _=>h)
  have aO:Hid (B.seen c.m c.st (k+1,v2)=(c.m,c.st)):=by show _=_;unfold B.seen;rw[au (by simp[aY.out])]
  go_wp2_with fail
  go_end0;have Z:=ar o J;exact⟨rfl,ad,cap,xG.refl _ _,by rw[aO.out];exact KC.kept Z,ep Z⟩
def CE(cb W sb n k:Nat)(ad:Option Addr)(cap:Nat)(c:B.Cy)(x:Int)(w:aa)(J:mV w cb W sb n ad cap c)(hk:k<n)(hn:n<=200): eL 221 #[P0 cb,vA (k+1,x)] w λw'=>mV w' cb W sb n ad cap ⟨B.mark c.m (k+1),c.st,c.nx⟩/\w.grownBy w' (some W):=by
 have KC:=bj J;obtain⟨_,c1,_⟩:=J.c1;have lc:=ch J.b;have a1:(k:Int)<n:=ag
 delta eL;go_in;go_wp2_with fail
 generalize hW:w.alloc (.cells #[aj ((k:Int)+1),aj x] 149)=w1;have u:Hid (w.grownBy w1 none):=by rw[<-hW];exact ak _ _ _
 have G:w1.heap[w.heap.size]? = some (.cells #[aj ((k:Int)+1),aj x] 149 (0,0)):=by rw[<-hW];exact bl w _
 have v0:dS w1 w.heap.size 0=some (aj ((k:Int)+1)):=fy G;have v1:dS w1 w.heap.size 1=some (aj x):=fy G;have d1:=(bd u (a:=ay cb 1) lc).1.trans c1;go_region_with (go_at_call 201;refine du ((bj (nT k x ag)).out _) λw4 o=>?_;have H:Hid (w1.grownBy w4 none):=⟨o.os,o.tape,o.output,o.size,o.block⟩;have i:=(KC.kept u).kept H;obtain⟨q0,f0⟩:=i.r.cells k hk;have a6:=i.c1.2.1;clear o i)
 all_goals
  go_wp2
  go_end0;have i:=(KC.kept u).kept H
  refine⟨rfl,⟨(ab _ _ _ _ (by obtain⟨cu,h,_⟩:=i.r;exact eE i.b h ek)).trans i.b,(i.r.eC k (.bool true)).congr (λj _=>?_),i.q.block (λy hy=>ab _ _ _ _ ?_)⟩,?_⟩
  .show _=Value.bool (B.mark c.m (k+1) (j+1));by_cases e:j=k
   .subst e;rw[gO,B.kh]
   rw[eN _ _ _ _ e,B.fZ _ _ _ ag]
  .obtain⟨cu,h⟩:=i.q.ty y hy;obtain⟨a4,h',_⟩:=i.r;exact eE h h' ek
  exact bu (eT (ar u H)) (af rfl) _
end
namespace M
variable {f l op p r:Nat}{s:ByteArray}
def bt(s:ByteArray)(p:Nat):Nat:=(s.data[p]?.getD 0).toNat
def tk(s:ByteArray)(p lo hi:Nat):Bool:=decide (p<s.size/\lo<=bt s p/\bt s p<=hi)
def kd:List (List Nat):=[[114,107,107],[114,114,45],[114,114,114],[114,114,114],[114,114,114],[114,114,114],[114,114,114],[45,116,116],[114,116,116],[114,115,45],[114,114,114],[114,114,114],[114,102,114],[114,114,114],[114,45,45],[114,114,114],[45,45,45],[114,45,45],[114,114,45],[114,45,45],[114,45,45],[114,114,45],[114,45,45]]
def k0(op:Nat):Nat:=(kd.getD op []).getD 0 0
def k1(op:Nat):Nat:=(kd.getD op []).getD 1 0
def k2(op:Nat):Nat:=(kd.getD op []).getD 2 0
def ko(r f k:Nat):Nat:=if k=114 then r-1 else if k=102 then f-1 else if k=115 then 8 else if k=107 then 255 else 0
def wI(s:ByteArray)(p l:Nat):Nat×Bool:=
 if s.size<p+2 then(s.size,false) else if l<256*bt s p+bt s (p+1) then(p,false) else(p+2,true)
def tJ(s:ByteArray)(p op r f l:Nat):Nat×Bool:=
 if tk s p 0 (ko r f (k0 op))=true then
  if k1 op=116 then wI s (p+1) l
  else if tk s (p+1) 0 (ko r f (k1 op))=true then
   if tk s (p+2) 0 (ko r f (k2 op))=true then(p+3,true) else(p+2,false)
  else(p+1,false)
 else(p,false)
def ins(s:ByteArray)(p r f l:Nat):Nat×Bool:=
 if tk s p 0 22=true then tJ s (p+1) (bt s p) r f l else(p,false)
def code(s:ByteArray)(r f l:Nat):Nat->Nat->Nat×Bool
 | p,0=>(p,true)
 | p,n+1=>if(ins s p r f l).2=true then code s r f l (ins s p r f l).1 n else((ins s p r f l).1,false)
def fn(s:ByteArray)(p f:Nat):Nat×Bool:=
 if tk s p 2 8=true then
  if tk s (p+1) 1 200=true then code s (bt s p) f (bt s (p+1)) (p+2) (bt s (p+1)) else(p+1,false)
 else(p,false)
def fns(s:ByteArray)(f:Nat):Nat->Nat->Nat×Bool
 | p,0=>(p,true)
 | p,n+1=>if(fn s p f).2=true then fns s f (fn s p f).1 n else((fn s p f).1,false)
def m9(s:ByteArray):Nat×Bool:=
 if tk s 0 1 8=true then((fns s (bt s 0) 1 (bt s 0)).1,(fns s (bt s 0) 1 (bt s 0)).2 && decide ((fns s (bt s 0) 1 (bt s 0)).1=s.size)) else(0,false)
def ops(s:ByteArray)(r f l:Nat):List Nat->Nat->Nat×Bool
 | [],q=>(q,true)
 | k :: ks,q=>if k=116 then wI s q l else if tk s q 0 (ko r f k)=true then ops s r f l ks (q+1) else(q,false)
def uG:∀e,e<23->kd.getD e []=[k0 e,k1 e,k2 e]/\k0 e≠116/\(k1 e≠116->k2 e≠116):=by decide
def A6(s:ByteArray)(p op r f l:Nat)(h:op<23):ops s r f l (kd.getD op []) p=tJ s p op r f l:=by
 obtain⟨u,o,i⟩:=uG op h;rw[u];unfold tJ;simp only[ops,if_neg o];grind
def Fy(s:ByteArray)(p:Nat):bt s p<256:=by
 unfold bt;exact UInt8.toNat_lt _
def nu(s:ByteArray)(p:Nat)(h:p<s.size):bt s p=(s[p]'h).toNat:=by
 unfold bt;rw[Array.getElem?_eq_getElem h];rfl
def gU{e hi:Nat}(h:tk s p e hi=true):p<s.size/\e<=bt s p/\bt s p<=hi:=by
 grind[tk]
theorem I5(h:p<=s.size):p<=(wI s p l).1/\(wI s p l).1<=s.size:=by
 unfold wI;grind
theorem Ek(h:p<=s.size):p<=(tJ s p op r f l).1/\(tJ s p op r f l).1<=s.size:=by
 unfold tJ;split
 .rename_i o;have:=gU o;split
  .grind[I5]
  split
  .rename_i i;have:=gU i;split
   .rename_i e;have:=gU e;omega
   omega
  omega
 omega
theorem An(h:p<=s.size):p<=(ins s p r f l).1/\(ins s p r f l).1<=s.size:=by
 unfold ins;split
 .rename_i e;have:=gU e;grind[Ek,bt]
 omega
def tI(h:(tJ s p op r f l).2=true):(tJ s p op r f l).1=p+3:=by
 unfold tJ at *;by_cases o:tk s p 0 (ko r f (k0 op))=true
 .rw[if_pos o]at h ⊢;by_cases u:k1 op=116
  .rw[if_pos u]at h ⊢;unfold wI at *;grind
  grind
 grind
theorem xi(h:(ins s p r f l).2=true):(ins s p r f l).1=p+4:=by
 unfold ins at *;split at h
 .rw[if_pos ag,tI h]
 grind
theorem Hs(n:Nat):∀p,p<=s.size->p<=(code s r f l p n).1/\(code s r f l p n).1<=s.size:=by
 induction n with
 | zero=>grind[code]
 | succ n e=>
  grind[An,code,M.code.eq_def]
def Mc(h:p<=s.size):p<=(fn s p f).1/\(fn s p f).1<=s.size:=by
 unfold fn;split
 .rename_i i;have:=gU i;split
  .rename_i e;have:=gU e;grind[Hs,bt]
  omega
 omega
def fR(S:ByteArray):List Nat:=S.data.toList.map UInt8.toNat
def KS(op:Nat):ByteArray:=⟨((kd.getD op []).map UInt8.ofNat).toArray⟩
def oh:∀e,e<23->fR (KS e)=kd.getD e []/\(KS e).size=3:=by decide
def mj(S:ByteArray)(k:Nat)(h:k<S.size):(fR S).drop k=S[k].toNat :: (fR S).drop (k+1):=by
 rw[List.drop_eq_getElem_cons (by simpa[fR] using h)];simp[fR];rfl
def sM(S:ByteArray):(fR S).drop S.size=[]:=by
 simp[List.drop_of_length_le,fR]
def oG(s:ByteArray)(p q i:Nat)(h:q<=s.size)(hi:p+i<q):bt (s.extract p q) i=bt s (p+i):=by
 unfold bt;have:(s.extract p q).data=s.data.extract p q:=by simp
 grind
theorem Fm(n:Nat):∀p,(code s r f l p n).2=true->(code s r f l p n).1=p+4*n:=by
 induction n with
 | zero=>intro p _;rfl
 | succ n i=>
  intro p h;unfold code at h ⊢;by_cases e:(ins s p r f l).2=true
  .rw[if_pos e]at h ⊢;grind[xi]
  grind
def uN(h:(fn s p f).2=true):(fn s p f).1=p+2+4*bt s (p+1)/\2<=bt s p/\bt s p<=8/\1<=bt s (p+1)/\bt s (p+1)<=200:=by
 unfold fn at *;by_cases i:tk s p 2 8=true
 .rw[if_pos i]at h ⊢;by_cases e:tk s (p+1) 1 200=true
  .rw[if_pos e]at h ⊢;have:=gU i;have:=gU e;grind[Fm]
  grind
 grind
def pos(s:ByteArray):Nat->Nat
 | 0=>1
 | k+1=>pos s k+2+4*bt s (pos s k+1)
end M
section
def iK(s:ByteArray)(p f r l:Int):Obj:=.cells #[.string s,.int .i64 p,.int .i64 f,.int .i64 r,.int .i64 l] 128 (0,0)
def jZ(s:ByteArray)(p:Int)(bad:Bool):Obj:=.cells #[.string s,.int .i64 p,.bool bad] 124 (0,0)
section
variable {w:aa}{b:Nat}{s:ByteArray}{p f r l:Int}
def fA(h:w.heap[b]? = some (iK s p f r l)):w.cell? (ay b 0)=some (.string s)/\w.cell? (ay b 1)=some (aj p)/\w.cell? (ay b 2)=some (aj f)/\w.cell? (ay b 3)=some (aj r)/\w.cell? (ay b 4)=some (aj l):=by
 simp[World.cell?,h,iK]
def iZ(h:w.heap[b]? = some (iK s p f r l)):w.frozen? (ay b 1)=false/\w.frozen? (ay b 2)=false/\w.frozen? (ay b 3)=false/\w.frozen? (ay b 4)=false:=by
 simp[World.frozen?,h,iK]
def um(h:w.heap[b]? = some (iK s p f r l))(v:Int):(w.setCell (ay b 1) (aj v)).heap[b]? = some (iK s v f r l):=by
 simp[World.setCell,dh,h,iK]
def Eb(h:w.heap[b]? = some (iK s p f r l))(v:Int):(w.setCell (ay b 2) (aj v)).heap[b]? = some (iK s p v r l):=by
 simp[World.setCell,dh,h,iK]
theorem uk(h:w.heap[b]? = some (iK s p f r l))(v:Int):(w.setCell (ay b 3) (aj v)).heap[b]? = some (iK s p f v l):=by
 simp[World.setCell,dh,h,iK]
theorem yv(h:w.heap[b]? = some (iK s p f r l))(v:Int):(w.setCell (ay b 4) (aj v)).heap[b]? = some (iK s p f r v):=by
 simp[World.setCell,dh,h,iK]
end
section
variable {w:aa}{b:Nat}{s:ByteArray}{p:Int}{bad:Bool}
def ij(h:w.heap[b]? = some (jZ s p bad)):w.cell? (ay b 0)=some (.string s)/\w.cell? (ay b 1)=some (aj p)/\w.cell? (ay b 2)=some (.bool bad):=by
 simp[World.cell?,h,jZ]
def lh(h:w.heap[b]? = some (jZ s p bad)):w.frozen? (ay b 1)=false/\w.frozen? (ay b 2)=false:=by
 simp[World.frozen?,h,jZ]
def Ea(h:w.heap[b]? = some (jZ s p bad))(v:Int):(w.setCell (ay b 1) (aj v)).heap[b]? = some (jZ s v bad):=by
 simp[World.setCell,dh,h,jZ]
def yt(h:w.heap[b]? = some (jZ s p bad))(v:Bool):(w.setCell (ay b 2) (.bool v)).heap[b]? = some (jZ s p v):=by
 simp[World.setCell,dh,h,jZ]
end
end
section
variable {ad:Option Addr}{cb e sb:Nat}{l:List B.V}{w w':aa}
theorem ofInt64(a:Nat)(e:a<65536):(BitVec.ofInt 64 (a:Int)).toNat=a:=by
 grind
def A5(a b:Nat)(y:a<256)(u:b<256):bits .or .i64 ((a:Int)*256) (b:Int)=256*(a:Int)+(b:Int):=by
 have o:a*256 ||| b=256*a+b:=by
  have:=Nat.shiftLeft_add_eq_or_of_lt (i:=8) (b:=b) ag a;rw[Nat.shiftLeft_eq,show(2:Nat) ^ 8=256 from rfl]at this;omega
 have e:((a:Int)*256)=((a*256:Nat):Int):=ag;rw[e];show IntKind.i64.wrap ((BitVec.ofInt 64 ((a*256:Nat):Int) ||| BitVec.ofInt 64 (b:Int)).toNat:Int)=_;grind[BitVec.toNat_or,ofInt64,IntWalk.i64_left,IntWalk.wrap64_in]
def wJ(b:Nat)(s:ByteArray)(p:Nat)(f r l:Int)(w:aa)(h:w.heap[b]? = some (iK s p f r l))(i:s.size<=9223372036854775807)(y:p<=s.size)(o:s.size<p+2): dD 216 #[.pointer (some (ay b 0))] w (.bool false) λw'=>∃n,w'=(w.drewN n).setCell (ay b 1) (aj s.size):=by
 obtain⟨c0,c1,_,_,_⟩:=fA h;obtain⟨u,_⟩:=iZ h;delta dD;go_in;go_wp2
 go_quiet (fail)
 go_wp2
 go_ret;exact⟨rfl,_,rfl⟩
def zM(b:Nat)(s:ByteArray)(p:Nat)(f r l:Int)(w:aa)(h:w.heap[b]? = some (iK s p f r l))(hs:s.size<=9223372036854775807)(h1:p+2<=s.size)(h2:256*(s[p].toNat:Int)+(s[p+1].toNat:Int)<=l): dD 216 #[.pointer (some (ay b 0))] w (.bool true) λw'=>∃n,w'=(w.drewN n).setCell (ay b 1) (aj (p+2)):=by
 obtain⟨c0,c1,_,_,c4⟩:=fA h;obtain⟨f1,_⟩:=iZ h;have i:s[p].toNat<256:=fg _;have o:s[p+1].toNat<256:=fg _;have hp:p<s.size:=ag
 have H:p+1<s.size:=ag
 have a0:IntKind.i64.wrap ((p:Int)+1)=(p:Int)+1:=iU
 have G:IntKind.i64.wrap (s[p].toNat:Int)=(s[p].toNat:Int):=iU
 have Z:IntKind.i64.wrap ((s[p].toNat:Int)*256)=(s[p].toNat:Int)*256:=iU
 have u:IntKind.i64.wrap (s[p+1].toNat:Int)=(s[p+1].toNat:Int):=iU
 have Y:=A5 s[p].toNat s[p+1].toNat i o;have W:((p:Int)+1).toNat=p+1:=ag
 have J:(p:Int)+1<(s.size:Int):=ag
 have y:(0:Int)<=p+1:=ag
 delta dD;go_in;go_wp2
 go_quiet (fail)
 go_wp2
 go_quiet (fail)
 go_wp2
 go_ret;exact⟨rfl,_,rfl⟩
def BV(b:Nat)(s:ByteArray)(p:Nat)(f r l:Int)(w:aa)(h:w.heap[b]? = some (iK s p f r l))(hs:s.size<=9223372036854775807)(h1:p+2<=s.size)(h2:l<256*(s[p].toNat:Int)+(s[p+1].toNat:Int)): dD 216 #[.pointer (some (ay b 0))] w (.bool false) λw'=>∃n,w'=w.drewN n:=by
 obtain⟨c0,c1,_,_,c4⟩:=fA h;have i:s[p].toNat<256:=fg _;have o:s[p+1].toNat<256:=fg _;have hp:p<s.size:=ag
 have H:p+1<s.size:=ag
 have a0:IntKind.i64.wrap ((p:Int)+1)=(p:Int)+1:=iU
 have G:IntKind.i64.wrap (s[p].toNat:Int)=(s[p].toNat:Int):=iU
 have Z:IntKind.i64.wrap ((s[p].toNat:Int)*256)=(s[p].toNat:Int)*256:=iU
 have u:IntKind.i64.wrap (s[p+1].toNat:Int)=(s[p+1].toNat:Int):=iU
 have Y:=A5 s[p].toNat s[p+1].toNat i o;have W:((p:Int)+1).toNat=p+1:=ag
 have J:(p:Int)+1<(s.size:Int):=ag
 have y:(0:Int)<=p+1:=ag
 delta dD;go_in;go_wp2
 go_quiet (fail)
 go_wp2
 go_quiet (fail)
 go_wp2
 go_ret;exact⟨rfl,_,World.drewN_drewN _ _ _⟩
def yp(b:Nat)(s:ByteArray)(p L:Nat)(f r l:Int)(w:aa)(h:w.heap[b]? = some (iK s p f r l))(H:s.size<=maxLen)(J:p<=s.size)(W:l=L): dD 216 #[.pointer (some (ay b 0))] w (.bool (M.wI s p L).2) λw'=>w'.heap[b]? = some (iK s ((M.wI s p L).1:Nat) f r l)/\w.grownBy w' (some b):=by
 have i:s.size<=9223372036854775807:=by unfold maxLen at H;omega
 by_cases o:s.size<p+2
 .have e:M.wI s p L=(s.size,false):=by unfold M.wI;rw[bf o]
  rw[e];refine du (wJ b s p f r l w h i J o) ?_;rintro w' ⟨n,rfl⟩;exact⟨rfl,um (w:=w.drewN n) h _,bu (df (aw _ _) _) (af rfl) _⟩
 have G:=M.nu s p ag;have u:=M.nu s (p+1) ag;by_cases y:L<256*M.bt s p+M.bt s (p+1)
 .have e:M.wI s p L=(p,false):=by unfold M.wI;rw[au o,bf y]
  rw[e];refine du (BV b s p f r l w h i ag ag) ?_;simp_all[df,aw]
 have e:M.wI s p L=(p+2,true):=by unfold M.wI;rw[au o,au y]
 rw[e];refine du (zM b s p f r l w h i ag ag) ?_;rintro w' ⟨n,rfl⟩;exact⟨rfl,um (w:=w.drewN n) h _,bu (df (aw _ _) _) (af rfl) _⟩
def yT(b:Nat)(s:ByteArray)(k R F:Nat)(p f r l i:Int)(w:aa)(h:w.heap[b]? = some (iK s p f r l))(hr:r=R)(W:f=F)(J:1<=R)(h2:1<=F)(Y:R<=8)(h4:F<=8)(Z:i=k): Calls prog 217 #[.pointer (some ⟨b,0,none⟩),.int .u8 i] w λe w'=>e=.returned (.int .i64 (M.ko R F k))/\w'=w:=by
 obtain⟨_,_,c2,c3,_⟩:=fA h;have H:(M.ko R F k:Int)=if i=114 then r-1 else if i=102 then f-1 else if i=115 then 8 else if i=107 then 255 else 0:=by
  unfold M.ko;repeat' split
  all_goals omega
 rw[H]
 by_cases y:i=114
 .subst y;go_in;go_wp2
  go_ret;simp_all
 have q1:(i == 114)=false:=gG y
 rw[au y]
 by_cases G:i=102
 .subst G;go_in;go_wp2
  go_ret;simp_all
 have q2:(i == 102)=false:=gG G
 rw[au G]
 by_cases u:i=115
 .subst u;go_in;go_wp2
  go_ret;simp_all
 have q3:(i == 115)=false:=gG u
 rw[au u]
 by_cases o:i=107
 .subst o;go_in;go_wp2
  go_ret;simp_all
 have q4:(i == 107)=false:=gG o
 rw[au o]
 go_in;go_wp2
 go_ret;simp_all
def DF(b:Nat)(s:ByteArray)(f r l i hi:Int)(w:aa)(h:w.heap[b]? = some (iK s s.size f r l)): dD 81 #[.pointer (some (ay b 0)),aj i,aj hi] w (.tuple #[aj 0,.bool false]) λw'=>∃n,w'=w.drewN n:=by
 obtain⟨c0,c1,_,_,_⟩:=fA h;delta dD;go_in;go_wp2
 go_quiet (fail)
 go_wp2
 go_ret2
 exact⟨rfl,_,rfl⟩
def DE(b:Nat)(s:ByteArray)(p:Nat)(f r l i hi x:Int)(w:aa)(h:w.heap[b]? = some (iK s p f r l))(y:s.size<=maxLen)(W:p<s.size)(hx:Hid (x=(s[p].toNat:Int)))(u:i<=x)(H:x<=hi): dD 81 #[.pointer (some (ay b 0)),aj i,aj hi] w (.tuple #[aj x,.bool true]) λw'=>∃n,w'=(w.drewN n).setCell (ay b 1) (aj (p+1)):=by
 unfold maxLen at y;obtain⟨c0,c1,_,_,_⟩:=fA h;obtain⟨J,_⟩:=iZ h;have G:((p:Int) == (s.size:Int))=false:=fH
 have o:s[p].toNat<256:=fg _;rw[hx.out]at u H ⊢;delta dD;go_in;go_wp2
 go_quiet (fail)
 go_wp2
 go_quiet (fail)
 go_wp2
 go_ret2
 exact⟨rfl,_,rfl⟩
def Gb(b:Nat)(s:ByteArray)(p:Nat)(f r l i hi x:Int)(w:aa)(h:w.heap[b]? = some (iK s p f r l))(H:p<s.size)(hx:Hid (x=(s[p].toNat:Int)))(u:x<i\/hi<x): dD 81 #[.pointer (some (ay b 0)),aj i,aj hi] w (.tuple #[aj 0,.bool false]) λw'=>∃n,w'=w.drewN n:=by
 obtain⟨c0,c1,_,_,_⟩:=fA h;have y:((p:Int) == (s.size:Int))=false:=fH
 have o:s[p].toNat<256:=fg _;rw[hx.out]at u;by_cases G:(s[p].toNat:Int)<i
 all_goals
  delta dD;go_in;go_wp2
  go_quiet (fail)
  go_wp2
  go_quiet (fail)
  go_wp2
  go_ret2
  exact⟨rfl,_,rfl⟩
def kZ(b:Nat)(s:ByteArray)(p L H:Nat)(f r l i hi:Int)(w:aa)(h:w.heap[b]? = some (iK s p f r l))(u:s.size<=maxLen)(y:i=L)(G:hi=H)(ht:M.tk s p L H=true): dD 81 #[.pointer (some (ay b 0)),aj i,aj hi] w (.tuple #[aj (M.bt s p),.bool true]) λw'=>w'.heap[b]? = some (iK s ((p+1:Nat):Int) f r l)/\w.grownBy w' (some b):=by
 obtain⟨o,W,J⟩:=M.gU ht;have e:=M.nu s p o;refine du (DE b s p f r l i hi (M.bt s p) w h u o (by show _=_;rw[e]) ag ag) ?_;rintro w' ⟨n,rfl⟩;exact⟨rfl,um (w:=w.drewN n) h _,bu (df (aw _ _) _) (af rfl) _⟩
def pa(b:Nat)(s:ByteArray)(p L H:Nat)(f r l i hi:Int)(w:aa)(h:w.heap[b]? = some (iK s p f r l))(J:p<=s.size)(u:i=L)(y:hi=H)(ht:M.tk s p L H=false): dD 81 #[.pointer (some (ay b 0)),aj i,aj hi] w (.tuple #[aj 0,.bool false]) λw'=>w'.heap[b]? = some (iK s p f r l)/\w.grownBy w' (some b):=by
 by_cases o:p<s.size
 .have e:=M.nu s p o;have G:M.bt s p<L\/H<M.bt s p:=by simp[M.tk]at ht;omega
  refine du (Gb b s p f r l i hi (M.bt s p) w h o (by show _=_;rw[e]) ag) ?_;rintro w' ⟨n,rfl⟩;exact⟨rfl,h,df (aw _ _) _⟩
 obtain rfl:p=s.size:=by omega
 refine du (DF b s f r l i hi w h) ?_;rintro w' ⟨n,rfl⟩;exact⟨rfl,h,df (aw _ _) _⟩
def qX(b:Nat)(s S:ByteArray)(p R F L:Nat)(f r l:Int)(w:aa)(h:w.heap[b]? = some (iK s p f r l))(hs:s.size<=maxLen)(hS:S.size<=3)(hp:p<=s.size)(hr:Hid (r=R))(hf:Hid (f=F))(hl:Hid (l=L))(h1:1<=R)(h2:1<=F)(h3:R<=8)(h4:F<=8): dD 197 #[.pointer (some (ay b 0)),.string S] w (.bool (M.ops s R F L (M.fR S) p).2) λw'=>w'.heap[b]? = some (iK s ((M.ops s R F L (M.fR S) p).1:Nat) f r l)/\w.grownBy w' (some b):=by
 have HS:Hid (s.size<=maxLen):=hs;delta dD;go_in;go_wp2
 go_loopw [10] (λi wr=>∃k q:Nat,k<=S.size/\q<=s.size/\i=aj k/\Hid (wr.heap[b]? = some (iK s q f r l))/\w.grownBy wr (some b)/\Hid (M.ops s R F L ((M.fR S).drop k) q=M.ops s R F L (M.fR S) p)) (λi _=>S.size-(intOf i).toNat)
 case atStart=>exact⟨0,p,ag,hp,rfl,h,aw _ _,rfl⟩
 case round=>
  obtain⟨k,q,hk,hq,rfl,G,Y,Z⟩:=hrel;by_cases a2:k<S.size
  .have y:Hid (M.ops s R F L (M.fR S) p=if S[k].toNat=116 then M.wI s q L else if M.tk s q 0 (M.ko R F S[k].toNat)=true then M.ops s R F L ((M.fR S).drop (k+1)) (q+1) else(q,false)):=by
    show _=_;rw[<-Z.out,M.mj S k a2];rfl
   by_cases ht:S[k].toNat=116
   .have o:Hid (M.ops s R F L (M.fR S) p=M.wI s q L):=by show _=_;rw[y.out,bf ht]
    go_wp2_with fail
    refine du (yp b s q L f r l _ G HS hq hl) ?_;rintro w1 ⟨J,a0⟩;go_wp2
    go_ret;refine⟨?_,?_,ar Y a0⟩
    .rw[o.out];rfl
    rw[o.out];exact J
   have a1:((S[k].toNat:Int) == 116)=false:=fH;rw[au ht]at y;go_wp2_with fail
   refine du (yT b s S[k].toNat R F q f r l _ _ G hr hf h1 h2 h3 h4 rfl) ?_;rintro w1 rfl;go_wp2_with fail
   by_cases u:M.tk s q 0 (M.ko R F S[k].toNat)=true
   .have o:Hid (M.ops s R F L (M.fR S) p=M.ops s R F L ((M.fR S).drop (k+1)) (q+1)):=by show _=_;rw[y.out,bf u]
    have a3:=(M.gU u).1;refine du (kZ b s q 0 _ f r l _ _ _ G HS rfl rfl u) ?_;rintro w2 ⟨J,H⟩;have HH:Hid (w2.heap[b]? = some (iK s ((q+1:Nat):Int) f r l)):=J;go_wp2
    go_roundw
    case rel=>exact⟨k+1,q+1,ag,ag,iA,HH,ar Y H,o.symm⟩
    case measure=>simp[intOf];omega
   have o:Hid (M.ops s R F L (M.fR S) p=(q,false)):=by show _=_;rw[y.out,au u]
   refine du (pa b s q 0 _ f r l _ _ _ G hq rfl rfl (gG u)) ?_;rintro w2 ⟨J,H⟩;have HH:Hid (w2.heap[b]? = some (iK s q f r l)):=J;go_wp2
   go_ret;refine⟨?_,?_,ar Y H⟩
   .rw[o.out];rfl
   rw[o.out];exact HH
  obtain rfl:k=S.size:=by omega
  have o:Hid (M.ops s R F L (M.fR S) p=(q,true)):=by
   show _=_;rw[<-Z.out,M.sM];rfl
  go_wp2
  go_ret;refine⟨?_,?_,Y⟩
  .rw[o.out];rfl
  rw[o.out];exact G
def og(w:aa):Prop:=0<w.heap.size/\∀op,op<23->w.cell? ⟨0,op,none⟩=some (.string (M.KS op))
def og.kept{b:Nat}(h:og w)(o:w.grownBy w' (some b))(y:b≠0):og w':=
 ⟨dm h.1 o.size,λi u=>(az (a:=ay 0 i) (o.block 0 h.1 eR)).trans (h.2 i u)⟩
def og.alloc(h:og w)(o:Obj):og (w.alloc o):=h.kept (b:=1) (ak _ _ _) ag
def xH(s:ByteArray)(p:Nat)(e:Ending)(ok:Bool):Prop:=∃a0 a1 a2 a3:Int,e=.returned (.tuple #[.agg #[.int .u8 a0,.int .u8 a1,.int .u8 a2,.int .u8 a3],.bool ok])/\(ok=true->a0=(M.bt s p:Int)/\a1=(M.bt s (p+1):Int)/\a2=(M.bt s (p+2):Int)/\a3=(M.bt s (p+3):Int))
def mn{b:Nat}{s:ByteArray}{p f r l:Int}(h:w.heap[b]? = some (iK s p f r l))(o:Obj):(w.alloc o).heap[b]? = some (iK s p f r l):=(av _ _ _ (ch h)).trans h
def qx{w1:aa}{b k:Nat}{G u i o:Value}{T:TypeId}(h:w.heap[k]? = some (.cells #[G,u,i,o] T (0,0)))(H:w.grownBy w1 (some b))(J:k≠b): k<w1.heap.size/\w1.cell? (ay k 0)=some G/\w1.cell? (ay k 1)=some u/\w1.cell? (ay k 2)=some i/\w1.cell? (ay k 3)=some o /\ w1.frozen? (ay k 0)=false/\w1.frozen? (ay k 1)=false/\w1.frozen? (ay k 2)=false/\w1.frozen? (ay k 3)=false:=by
 have y:=da H h eR;grind[ch,World.cell?,World.frozen?]
theorem ts(b:Nat)(s:ByteArray)(p:Nat)(f r l:Int)(w:aa)(h:w.heap[b]? = some (iK s p f r l))(y:p<=s.size)(ht:M.tk s p 0 22=false): Calls prog 147 #[.pointer (some (ay b 0))] w λe w'=>xH s p e false/\w'.heap[b]? = some (iK s p f r l)/\w.grownBy w' (some b):=by
 have hb:=ch h;obtain⟨c0,c1,_,_,_⟩:=fA h;have H:Hid (w.heap[b]? = some (iK s p f r l)):=h;go_in;go_wp2_with fail
 refine du (pa b s p 0 22 f r l _ _ _ (mn H _) y rfl rfl ht) ?_;rintro w1 ⟨i,o⟩;obtain⟨hz,d0,Y,d2,J,Z,e1,W,G⟩:=qx (k:=w.heap.size) (bl w _) o ag;have u:Hid (w1.heap[b]? = some (iK s p f r l)):=i;go_wp2
 refine dg (v:=.tuple #[.agg #[dy 0,dy 0,dy 0,dy 0],.bool false]) (by simp[results,results147,go_sem, *]) rfl ⟨⟨0,0,0,0,rfl,λh=>by cases h⟩,?_,?_⟩
 .grind[Below.heap_setCell]
 repeat (refine bu ?_ (ah eB) _)
 exact ar (ak _ _ _) o
def tn(b:Nat)(s:ByteArray)(p R F L:Nat)(f r l:Int)(w:aa)(h:w.heap[b]? = some (iK s p f r l))(hs:s.size<=maxLen)(W:b≠0)(Z:og w)(hr:Hid (r=R))(hf:Hid (f=F))(hl:Hid (l=L))(h1:1<=R)(h2:1<=F)(h3:R<=8)(h4:F<=8)(ht:M.tk s p 0 22=true)(ho:Hid ((M.tJ s (p+1) (M.bt s p) R F L).2=false)): Calls prog 147 #[.pointer (some (ay b 0))] w λe w'=>xH s p e false/\w'.heap[b]? = some (iK s ((M.tJ s (p+1) (M.bt s p) R F L).1:Nat) f r l)/\w.grownBy w' (some b):=by
 have hb:=ch h;obtain⟨c0,c1,_,_,_⟩:=fA h;have H:Hid (w.heap[b]? = some (iK s p f r l)):=h;have HS:Hid (s.size<=maxLen):=hs;obtain⟨hp,_,a1⟩:=M.gU ht;have HO:Hid (M.ops s R F L (M.fR (M.KS (M.bt s p))) (p+1)=M.tJ s (p+1) (M.bt s p) R F L):=by
  show _=_;rw[(M.oh _ ag).1,M.A6 _ _ _ _ _ _ ag]
 have HK:Hid ((M.KS (M.bt s p)).size<=3):=by show _<=_;rw[(M.oh _ ag).2];exact bq _
 have HT:Hid (M.tk s p 0 22=true):=ht;have y:Hid (og w):=Z;go_in;go_wp2_with fail
 refine du (kZ b s p 0 22 f r l _ _ _ (mn H _) HS rfl rfl HT) ?_;rintro w1 ⟨o,J⟩;have i:=(y.alloc _).kept J W;have hc:=i.2 (M.bt s p) ag;have HH:Hid (w1.heap[b]? = some (iK s ((p+1:Nat):Int) f r l)):=o;generalize Y:M.bt s p=q at *;have HQ:Hid (M.bt s p=q):=Y;go_wp2_with fail
 refine du (qX b s (M.KS q) (p+1) R F L f r l _ HH HS HK ag hr hf hl h1 h2 h3 h4) ?_;rintro w2 ⟨o,u⟩;rw[HO.out]at o ⊢;rw[ho.out];obtain⟨hz,d0,d1,d2,d3,e0,e1,e2,e3⟩:=qx (k:=w.heap.size) (bl w _) (ar J u) ag;have G:Hid (w2.heap[b]? = some (iK s ((M.tJ s (p+1) q R F L).1:Nat) f r l)):=o;go_wp2
 refine dg (v:=.tuple #[.agg #[dy 0,dy 0,dy 0,dy 0],.bool false]) (by simp[results,results147,go_sem, *]) rfl ⟨⟨0,0,0,0,rfl,λh=>by cases h⟩,?_,?_⟩
 .grind[Below.heap_setCell]
 repeat (refine bu ?_ (ah eB) _)
 exact ar (ar (ak _ _ _) J) u
def tm(b:Nat)(s:ByteArray)(p R F L:Nat)(f r l:Int)(w:aa)(h:w.heap[b]? = some (iK s p f r l))(hs:s.size<=maxLen)(Y:b≠0)(hT:og w)(hr:Hid (r=R))(hf:Hid (f=F))(hl:Hid (l=L))(h1:1<=R)(h2:1<=F)(h3:R<=8)(h4:F<=8)(ht:M.tk s p 0 22=true)(Z:Hid ((M.tJ s (p+1) (M.bt s p) R F L).2=true)): Calls prog 147 #[.pointer (some (ay b 0))] w λe w'=>xH s p e true/\w'.heap[b]? = some (iK s ((p+4:Nat):Int) f r l)/\w.grownBy w' (some b):=by
 have hb:=ch h;obtain⟨c0,c1,_,_,_⟩:=fA h;have H:Hid (w.heap[b]? = some (iK s p f r l)):=h;have HS:Hid (s.size<=maxLen):=hs;obtain⟨hp,_,a1⟩:=M.gU ht;have HO:Hid (M.ops s R F L (M.fR (M.KS (M.bt s p))) (p+1)=M.tJ s (p+1) (M.bt s p) R F L):=by
  show _=_;rw[(M.oh _ ag).1,M.A6 _ _ _ _ _ _ ag]
 have HK:Hid ((M.KS (M.bt s p)).size<=3):=by show _<=_;rw[(M.oh _ ag).2];exact bq _
 have HT:Hid (M.tk s p 0 22=true):=ht;have y:Hid (og w):=hT;clear h hs ht hT;go_in;go_wp2_with fail
 refine du (kZ b s p 0 22 f r l _ _ _ (mn H _) HS rfl rfl HT) ?_;rintro w1 ⟨i,G⟩;have o:=(y.alloc _).kept G Y;have hc:=o.2 (M.bt s p) ag;have HH:Hid (w1.heap[b]? = some (iK s ((p+1:Nat):Int) f r l)):=i;clear i;generalize hq:M.bt s p=q at *;clear hq o;go_wp2_with fail
 refine du (qX b s (M.KS q) (p+1) R F L f r l _ HH HS HK ag hr hf hl h1 h2 h3 h4) ?_;rintro w2 ⟨i,u⟩;rw[HO.out]at i ⊢;rw[Z.out];rw[M.tI Z]at i;have J:=(M.Ek (s:=s) (p:=p+1) (op:=q) (r:=R) (f:=F) (l:=L) ag).2;rw[M.tI Z]at J;obtain⟨hz,d0,d1,d2,d3,e0,e1,e2,e3⟩:=qx (k:=w.heap.size) (bl w _) (ar G u) ag;have W:Hid (w2.heap[b]? = some (iK s ((p+4:Nat):Int) f r l)):=i;obtain⟨x0,x1,_,_,_⟩:=fA i;clear i;go_wp2
 go_quiet (fail)
 go_wp2_with fail
 have h4:(s.extract p (p+1+3)).size=4:=fH
 have HX:Hid (M.bt (s.extract p (p+1+3)) 0=M.bt s p/\M.bt (s.extract p (p+1+3)) 1=M.bt s (p+1)/\M.bt (s.extract p (p+1+3)) 2=M.bt s (p+2)/\M.bt (s.extract p (p+1+3)) 3=M.bt s (p+3)):=
  ⟨M.oG s p _ 0 ag ag,M.oG s p _ 1 ag ag,M.oG s p _ 2 ag ag,M.oG s p _ 3 ag ag⟩
 generalize s.extract p (p+1+3)=x at *;go_region
 go_wp2
 refine dg (v:=.tuple #[.agg #[dy (x[0].toNat:Int),dy (x[1].toNat:Int),dy (x[2].toNat:Int),dy (x[3].toNat:Int)],.bool true]) (by simp[results,results147,go_sem, *]) rfl ⟨⟨_,_,_,_,rfl,λ_=>?_⟩,?_,?_⟩
 .obtain⟨k0,k1,k2,k3⟩:=HX;rw[M.nu x 0 ag]at k0;rw[M.nu x 1 ag]at k1;rw[M.nu x 2 ag]at k2;rw[M.nu x 3 ag]at k3;rw[k0,k1,k2,k3];exact⟨rfl,rfl,rfl,rfl⟩
 .repeat (rw[ab _ _ _ _ fH])
  exact W
 repeat (refine bu ?_ (ah eB) _)
 exact df (ar (ar (ak _ _ _) G) u) _
def tu(b:Nat)(s:ByteArray)(p R F L:Nat)(f r l:Int)(w:aa)(h:w.heap[b]? = some (iK s p f r l))(J:s.size<=maxLen)(hp:p<=s.size)(o:b≠0)(H:og w)(y:Hid (r=R))(W:Hid (f=F))(hl:Hid (l=L))(G:1<=R)(Z:1<=F)(Y:R<=8)(h4:F<=8): Calls prog 147 #[.pointer (some (ay b 0))] w λe w'=>xH s p e (M.ins s p R F L).2/\w'.heap[b]? = some (iK s ((M.ins s p R F L).1:Nat) f r l)/\w.grownBy w' (some b):=by
 by_cases ht:M.tk s p 0 22=true
 .have e:M.ins s p R F L=M.tJ s (p+1) (M.bt s p) R F L:=by unfold M.ins;rw[bf ht]
  rw[e];by_cases u:(M.tJ s (p+1) (M.bt s p) R F L).2=true
  .rw[u,M.tI u];exact tm b s p R F L f r l w h J o H y W hl G Z Y h4 ht u
  have i:(M.tJ s (p+1) (M.bt s p) R F L).2=false:=gG u;rw[i];exact tn b s p R F L f r l w h J o H y W hl G Z Y h4 ht i
 have e:M.ins s p R F L=(p,false):=by unfold M.ins;rw[au ht]
 grind[ts]
def gM{b o:Nat}{v:Value}(h:w.cell? (ay b o)=some v):b<w.heap.size:=by
 rcases Nat.lt_or_ge b w.heap.size with e|e
 .exact e
 have:=Array.getElem?_eq_none e;simp[World.cell?,this]at h
def xE(w0 w:aa)(cb rd sb n:Nat)(ad:Option Addr)(c:B.Cy)(l:List B.V):Prop:=
 dM (oT cb rd ad) w0 w/\∃ad' cap',xG ad ad' w0.heap.size/\mV w cb rd sb n ad' cap' ⟨(B.ib c.m c.st l).1,(B.ib c.m c.st l).2,c.nx⟩
def F6{n:Nat}{cap:Nat}{c:B.Cy}(h:mV w cb e sb n ad cap c):xE w w cb e sb n ad c []:=⟨dw _ _,ad,cap,xG.refl _ _,h⟩
theorem xE.kept{w0 w w':aa}{cb o sb n:Nat}{ad:Option Addr}{c:B.Cy}{l:List B.V}(h:xE w0 w cb o sb n ad c l)(u:w.grownBy w' none):xE w0 w' cb o sb n ad c l:=by
 obtain⟨H,i,e,G,y⟩:=h;exact⟨H.iW u,i,e,G,y.kept u⟩
def B6{n:Nat}{c:B.Cy}(hn:n<=200)(i:c.st.length+B.mU c.m n<=n)(e:∀v,v∈l->v.1≠0->v.1<=n):(B.ib c.m c.st l).2.length<=200:=by
 have:=B.nQ (n:=n) l c.m c.st e;omega
def xP{w0:aa}{y n:Nat}{c:B.Cy}(v:B.V)(h:xE w0 w cb y sb n ad c l)(hn:n<=200)(hs:c.st.length+B.mU c.m n<=n)(W:∀v,v∈l->v.1≠0->v.1<=n)(hv:v.1≠0->v.1<=n): eL 188 #[P0 cb,vA v] w λw'=>xE w0 w' cb y sb n ad c (l++[v]):=by
 obtain⟨H,u,i,J,h3⟩:=h;refine du (sj cb y sb n u i _ v w h3 hv hn (B6 hn hs W)) ?_;rintro w' ⟨G,o,h4,h5,Z⟩;refine⟨rfl,H.trans Z (λk Y W=>(J.J1 Y).resolve_right ag),G,o,J.trans h4 H.size,?_⟩;rw[B.qs];exact h5
def Kx(Q:Nat->Prop)(w:aa)(eb nr:Nat)(R:Nat->B.V):Prop:=
 ∀(w1:aa) (cb rd sb n:Nat) (ad:Option Addr) (cap:Nat) (c:B.Cy),(∀k,Q k->w1.heap[k]? = w.heap[k]?)->mV w1 cb rd sb n ad cap c->(∀k,Q k->¬oT cb rd ad k)->n<=200->c.st.length+B.mU c.m n<=n->(∀i,i<nr->(R i).1≠0->(R i).1<=n) ->
  Calls prog 59 #[P0 eb,.func (.func 188) #[P0 cb] #[]] w1 λe w2=>e=.returned (.tuple #[])/\xE w1 w2 cb rd sb n ad c (B.jm R nr)
theorem Kx.block{Q:Nat->Prop}{eb nr:Nat}{R:Nat->B.V}(h:Kx Q w eb nr R)(i:∀k,Q k->w'.heap[k]? = w.heap[k]?):Kx Q w' eb nr R:=
 λw1 y u sb n ad cap c o=>h w1 y u sb n ad cap c (λk e=>(o k e).trans (i k e))
def Tryz.EU:(prog.info? 184).map (λi=>(i.zero,i.size,i.bytes))=some (some (.pointer none),1,8):=by kernel_rfl
theorem nR(j:Nat):eQ (λ_=>((0,0):B.V)) j=aj 0:=by grind[eQ]
def Cx{g b:Nat}(h:w.ownsRow e 149 2 (dA g b b) b (madeCells #[aj 0,aj 0] (b*2)).toList):Full w g 149 (b*2) (b*2) (eQ (λ_=>(0,0))):=by
 rcases h.2 with⟨h,_⟩|⟨g',u,i,H,h2,Y,h4,Z,J,W⟩
 .cases h
 cases H;refine⟨i,Y,J,λj y=>?_⟩;have o:=congrArg (λl=>l[j]?) W;have G:(madeCells #[aj 0,aj 0] (b*2)).toList[j]? = some (aj 0):=by
  simp only[madeCells,Array.getElem?_toList,Array.getElem?_map,Array.getElem?_range];rw[bf y];have:j % 2=0\/j % 2=1:=by omega
  rcases this with h|h<;>simp[h]
 simp only[G,dO]at o;simp_all[bf,nR]
def NI(eb tb:Nat)(v:B.V)(R:aa->Prop)(w:aa)(H:∀w1,w.grownBy w1 none->eL 175 #[P0 eb,P0 tb,vA v,aj 2,aj v.2] w1 λw'=>R w'): eL 121 #[P0 eb,P0 tb,vA v] w λw'=>R w':=by
 have J:=bj H;obtain⟨y,W⟩:=v;delta eL;go_in;go_wp2_with fail
 refine du (gk (y,W) _) λw1 i=>?_;obtain⟨k0,_⟩:=bd i (a:=ay w.heap.size 0) eB;obtain⟨k1,_⟩:=bd i (a:=ay w.heap.size 1) eB;simp[go_sem]at k0 k1;have G:Hid (w.grownBy w1 none):=ar (ak _ _ _) i;go_wp2_with fail
 refine du (J w1 G) λw2 o=>?_;have u:=bj o;go_wp2
 go_end0;exact⟨rfl,u⟩
def Mh(eb tb why:Nat)(hw:why<=8)(R:aa->Prop)(w:aa)(H:∀w1,w.grownBy w1 none->eL 175 #[P0 eb,P0 tb,vA (0,-(why:Int)),aj 3,aj why] w1 λw'=>R w'): eL 187 #[P0 eb,P0 tb,aj why] w λw'=>R w':=by
 have u:=bj H;have G:IntKind.i64.wrap (-(why:Int))=-(why:Int):=by simp[IntKind.wrap,IntKind.bits,IntKind.signed];omega
 delta eL;go_in;go_wp2_with fail
 refine du (fG _ _) ?_;rintro w1 rfl;go_wp2_with fail
 refine du (u _ (ak _ _ _)) λw2 i=>?_;have o:=bj i;go_wp2
 go_end0;exact⟨rfl,o⟩
def Fh(eb tb:Nat)(R:aa->Prop)(w:aa)(H:∀w1,w.grownBy w1 none->eL 175 #[P0 eb,P0 tb,vA (0,-100),aj 4,aj 0] w1 λw'=>R w'): eL 172 #[P0 eb,P0 tb] w λw'=>R w':=by
 have u:=bj H;delta eL;go_in;go_wp2_with fail
 refine du (fG _ _) ?_;rintro w1 rfl;go_wp2_with fail
 refine du (u _ (ak _ _ _)) λw2 i=>?_;have o:=bj i;go_wp2
 go_end0;exact⟨rfl,o⟩
def Ic(eb tb xe xt:Nat)(v:B.V)(R:aa->Prop)(w:aa)(he:w.cell? (ay xe 0)=some (P0 eb))(ht:w.cell? (ay xt 0)=some (P0 tb))(le:xe<w.heap.size)(lt:xt<w.heap.size)(H:∀w1,w.grownBy w1 none->eL 175 #[P0 eb,P0 tb,vA v,aj 2,aj v.2] w1 λw'=>R w'): eL 120 #[vA v,P0 xe,P0 xt] w λw'=>R w':=by
 have y:=bj (NI eb tb v R);have u:=bj H;obtain⟨J,W⟩:=v;delta eL;go_in;go_wp2_with fail
 refine du (y _ (λw1 G=>u w1 (ar (ak _ _ _) G))) λw2 i=>?_;have o:=bj i;go_wp2
 go_end0;exact⟨rfl,o⟩
