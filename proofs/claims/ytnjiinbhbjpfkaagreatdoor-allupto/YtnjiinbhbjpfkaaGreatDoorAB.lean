import Derived.Test.YtnjiinbhbjpfkaaGreatDoorAA
set_option maxRecDepth 100000
set_option maxHeartbeats 0
set_option linter.all false
namespace Go.Proofs.YtnjiinbhbjpfkaaGreatDoor
open Go.RowKit Go.Proofs.Tryz
section
variable {e:TypeId}{w:aa}{xs:List Value}
theorem nT{i g n c:Nat}(J:i<=g)(hn:n<=c)(W:c<=maxLen)(Z:xs.length=n)(H:jQ w g e c)(hx:∀j x,xs[j]?=some x->w.cell? (az g j)=some x):w.ownsRow i e 1 (dD g n c) n xs:=by
 obtain⟨u,y,Y⟩:=H;refine⟨af,ak ⟨g,c,u,rfl,J,y,hn,W,af,?_⟩⟩;rw[Nat.mul_one];apply List.ext_getElem?
 intro j;by_cases G:j<n
 .obtain⟨x,o⟩:∃x,xs[j]?=some x:=⟨_,bw af⟩;have:=hx j x o;rw[o,dP,bf G];grind[World.cell?]
 grind
theorem ik{i g n c:Nat}(h:w.ownsRow i e 1 (dD g n c) n xs):i<=g/\n<=c/\c<=maxLen/\xs.length=n/\jQ w g e c/\∀j x,xs[j]?=some x->w.cell? (az g j)=some x:=by
 rcases h with⟨J,⟨h,_⟩|⟨g',c',o,Y,h2,H,h4,Z,y,G⟩⟩
 .cases h
 cases Y;rw[Nat.mul_one]at J y G;refine⟨h2,h4,Z,J,⟨o,H,y⟩,λj x u=>?_⟩;have W:j<n:=by
  have:=(cf.1 u).1;omega
 rw[<-G,dP,bf W]at u;grind[World.cell?]
theorem na{w:aa}(g:Nat):∀{w1:aa},w.grownBy w1 (some g)->∀(e:List Value) (o:Nat),w.grownBy (w1.setCells g o e)<|some g
 |_,h,[],_=>h
 |_,h,_ :: r,o=>na g (bu h (ag rfl) _) r (o+1)
theorem m9{w':aa}(h:w.grownBy w' none)(g:Nat):w.grownBy w' (some g):={h with block:=λk i _=>h.block k i ey}
theorem ti:∀(xs:List Nat) (x j:Nat),xs[j]?=some x->xs.idxOf x<=j
 | [],x,j,h=>by grind
 |y :: xs,x,j,h=>by
  rw[List.idxOf_cons];by_cases e:y=x
  .grind
  have i:(y == x)=false:=iE e
  rw[i]
  cases j with
  |zero=>grind
  |succ j=>
   have:=ti xs x j ey;grind
theorem EC(g c n tb:Nat)(xs:List Nat)(w:aa)(hn:n=xs.length)(a3:n<=1000000000)(W:∀j x,xs[j]?=some x->w.cell? (az g j)=some (P0 x))(Z:jQ w tb 160 7)(hX:∀x,x∈xs->jQ w x 160 7)(hm:tb∈xs):dC 183 #[dD g n c,P0 tb] w (ah (xs.idxOf tb:Nat)) λw'=>w'=w:=by
 let⟨i0,hi,a6,J,a1⟩:=info_parts Tryz.BW;have a2:=λ(w:aa)=>run_eql_ptr_same (P:=prog) (w:=w) (tp:=155) (te:=160) (az tb 0) underlying155 hi;have G:=List.idxOf_lt_length_of_mem hm;change Hid _ at W Z hX G hn;clear hm;delta dC;go_in;go_wp2
 go_loopw[8] (λi wr=>∃j:Nat,i=ah j/\j<=xs.idxOf tb/\wr=w) (λi _=>xs.idxOf tb-(intOf i).toNat)
 case atStart=>grind
 case round=>
  obtain⟨j,rfl,hj,rfl⟩:=hrel;have a4:j<n:=by have:=G.out;have:=hn.out;omega
  obtain⟨x,y⟩:∃x,xs[j]?=some x:=⟨_,bw<|gD hn.out⟩;have cj:=W j x y;by_cases o:j=xs.idxOf tb
  .have u:x=tb:=by
    have:=List.getElem_idxOf (x:=tb) G;rw[cf]at y;obtain⟨h1,h2⟩:=y;subst o;rw[<-h2];exact this
   subst u;change Hid _ at o;go_wp2
   go_ret;exact⟨by simp[o.out],rfl⟩
  have u:x≠tb:=by
   intro e;subst e;have a5:=ti xs x j y;omega
  obtain⟨ct,bt,_⟩:=Z;let⟨cx,Y,_⟩:=hX x<|eh y;have a0:=run_eql_ptr_other (P:=prog) (w:=wr) (tp:=155) (te:=160) (a:=az tb 0) (b:=az x 0) underlying155 hi af ey bt Y;go_wp2
  go_roundw
  case rel=>exact⟨j+1,iI,af,trivial⟩
  case measure=>simp[intOf];omega
theorem EF(g c n i J:Nat)(xs:List Value)(w:aa)(a0:w.ownsRow J 155 1 (.slice (some ⟨g,0,none⟩) n c) n xs)(aI:i<n)(h1:∀x,x∈xs->x.oneCell'=true)(aF:n<=1000000000):Calls prog 184 #[.slice (some ⟨g,0,none⟩) n c,.int .i64 (i:Int),.int .i64<|(i:Int)+1] w λe w'=>e=.returned (.slice (some ⟨g,0,none⟩) (n-1) c)/\w'.ownsRow J 155 1 (.slice (some ⟨g,0,none⟩) (n-1) c) (n-1) (xs.eraseIdx i)/\w.grownBy w' (some g):=by
 let⟨hb,hc,hm,hl,hB,y⟩:=ik a0;clear a0;let⟨i0,hi,a6,a4,a9⟩:=info_parts Tryz.qu;have hv:∀w,(zeroValue 155).run prog w=.ok (.pointer none) w:=by intro w;simp[zeroValue,typeInfo,hi,a6]
 have W:∀(ty:TypeId) (w1:aa) (G:Nat),jQ w1 g 155 c->(Builtin.clear_ #[136] ty #[.slice (some ⟨g,n-1,none⟩) 1 G]).run prog w1=.ok (.tuple #[]) (iA w1 g (n-1)<|.pointer none):=by
  intro ty w1 G a2;refine Go.Lib.run_clear_slice (P:=prog) w1 136 155 ty (.pointer none) underlying136 hv rfl rfl g (n-1) 1 G af ?_ ?_
  .intro j Z;let⟨⟨v,h⟩,_⟩:=a2.cell (n-1+j) af;rw[h];rfl
  intro j Z;exact(a2.cell (n-1+j) af).2
 have aG:i<=c:=af
 have aA:(0:Int)<=(i:Int)+1:=af
 have a8:i+1<=c:=af
 have aC:(n:Int)<=(c:Int):=af
 have aE:(i:Int)+1<=(n:Int):=af
 have aH:(c:Int)<=9223372036854775807:=by unfold maxLen at hm;omega
 have HB:=bj hB;have HX:=bj y;have H1:=bj h1;have H:=bj hl;have Y:=bj W;have HM:=bj hm;clear hB y h1 hl W hm;by_cases o:i+1=n
 .obtain rfl:n=i+1:=o.symm;have cl:∀(ty:TypeId) (G:Nat),(Builtin.clear_ #[136] ty #[.slice (some ⟨g,i,none⟩) 1 G]).run prog w.drew=.ok (.tuple #[]) (iA w.drew g i<|.pointer none):=λty G=>Y ty w.drew G HB;clear o;go_in;go_wp2_with fail
  go_region_law (refine lQ rfl (.tmp 22) (.tmp 25) 136 rfl 155 i0 underlying136 hi (some ⟨g,0,none⟩) (if c=i+1 then some ⟨g,0,none⟩ else some ⟨g,i+1,none⟩) i c (c-(i+1)) mS mS af ?_)
  all_goals
   go_wp2_with fail
   all_goals
    go_ret;refine⟨rfl,nT hb af (gD HM.out) (by rw[List.length_eraseIdx,bf<|lD H.out,H];omega) (by let⟨cu,k1,k2⟩:=HB.set g i<|.pointer none;exact⟨cu,k1,af⟩)<|λj x y=>?_,?_⟩
    .have Z:j<i:=by
      have:=(cf.1 y).1;rw[List.length_eraseIdx,bf<|lD H.out,H]at this;omega
     rw[List.getElem?_eraseIdx_of_lt Z]at y;have:=HX j x y;have h2:(World.setCell w ⟨g,i,none⟩<|.pointer none).cell? ⟨g,j,none⟩=some x:=by
      rw[dK _ _ _ _ Cm];exact this
     exact h2
    repeat (first|exact aw _ _|refine bo ?_|refine bu ?_ (ag rfl) _)
 obtain⟨m,a7⟩:∃m,n=i+1+m:=⟨n-(i+1),af⟩;have aD:1<=m:=af
 subst a7;have aB:¬c=i+1:=af
 have r1:(xs.drop<|i+1).length=m*1:=by rw[List.length_drop,H.out,Nat.mul_one];omega
 have r2:∀j u,(xs.drop<|i+1)[j]?=some u->w.drew.cell? ((⟨g,i+1,none⟩:Addr).add j)=some u:=λj u hu=>by
  rw[List.getElem?_drop]at hu;have:=HX (i+1+j) u hu
  cases j with
  |zero=>simpa[Addr.add] using this
  |succ j=>simpa[Addr.add] using this
 have r3:∀u,u∈xs.drop (i+1)->u.oneCell'=true:=λu hu=>H1 u<|List.mem_of_mem_drop hu;have r5:∀j,j<(xs.drop<|i+1).length->(w.drew.cell? ⟨g,0+i*1+j,none⟩).isSome=true/\w.drew.frozen? ⟨g,0+i*1+j,none⟩=false:=λj Z=>by
  rw[r1]at Z;let⟨⟨v,h⟩,hf⟩:=HB.cell (0+i*1+j) af;have h':w.drew.cell? ⟨g,0+i*1+j,none⟩=some v:=h;exact⟨kh h',hf⟩
 have HR:=bj<|bh r1<|bh r2<|bh r3 r5;have e1:i+1+m-(i+1)=m:=af
 have e2:i+1+m-(i+m)=1:=af
 have e3:i+m<=c:=af
 have e6:(i:Int)+1<=(i:Int)+1+(m:Int):=af
 have BS:jQ (w.drew.setCells g i<|xs.drop<|i+1) g 155 c:=jQ.xD g _ _ _ (show jQ w.drew g 155 c from HB);have cl:=λty G=>by
  have:=Y ty _ G BS;rw[show i+1+m-1=i+m by omega]at this;exact this
 have a5:=bj BS;clear r1 r2 r3 r5 o BS;go_in;go_wp2_with fail
 go_region_law (refine step_append_room rfl (.tmp 22) (.tmp 25) 136 rfl 155 i0 1 underlying136 hi a4 g 0 i c mS ⟨g,i+1,none⟩ m (c-(i+1)) (xs.drop<|i+1) mS HR.1 HR.2.1 HR.2.2.1 af HR.2.2.2 ?_)
 all_goals
  go_wp2_with fail
  go_ret;rw[show i+1+m-1=i+m by omega];have a1:∀j,j<(xs.drop<|i+1).length->(w.drew.cell? ⟨g,i+j,none⟩).isSome=true:=λj Z=>by
   have:=(HR.2.2.2 j Z).1;simpa using this
  refine⟨rfl,nT hb af HM (by rw[List.length_eraseIdx,bf<|lD H.out,H];omega) (by let⟨cu,k1,k2⟩:=a5.set g (i+m)<|.pointer none;exact⟨cu,k1,k2⟩)<|λj x y=>?_,?_⟩
  .have Z:j<i+m:=by
    have:=(cf.1 y).1;rw[List.length_eraseIdx,bf<|lD H.out,H]at this;omega
   have h2:(iA (w.drew.setCells g i<|xs.drop<|i+1) g (i+m)<|.pointer none).cell? ⟨g,j,none⟩=some x:=by
    rw[dK _ _ _ _ Cm];by_cases a3:j<i
    .rw[World.cell?_setCells_out g _ _ _ _<|λ_ _=>ag a3];rw[List.getElem?_eraseIdx_of_lt a3]at y;exact HX j x y
    obtain⟨t,rfl⟩:∃t,j=i+t:=⟨j-i,af⟩;rw[List.getElem?_eraseIdx_of_ge af]at y;have hd:(xs.drop<|i+1)[t]?=some x:=by rw[List.getElem?_drop,<-y];congr 1;omega
    have ht:=(cf.1 hd).1;rw[World.cell?_setCells_in g _ _ _ a1 t ht];let⟨_,hv⟩:=cf.1 hd;rw[hv]
   exact h2
  repeat (first|exact aw _ _|refine bo ?_|refine bu ?_ (ag rfl) _|refine na g ?_ _ _)
theorem jD{P:Program}{ops:Array Oper}{rest:List Oper}{o:Oper}{a:Act}{Q:Exit->Act->aa->Prop}(aA:o.guard=none)(s x:Operand)(t:TypeId)(ho:o.op=.call {callee:=.builtin .append,args:=#[s,x],argTypes:=#[t,t]})(e:TypeId)(i:TypeInfo)(z:Value)(size bytes:Nat)(ht:P.underlying t=some (.slice e))(hi:P.info? e=some i)(hz:i.zero=some z)(J:i.size=size)(a2:i.bytes=bytes)(a3:z.cells.size=size)(a5:0<size)(a1:Nat)(ao:Option Addr)(n cap:Nat)(xs:List Value)(hs:a.eval s=.slice ao n cap)(a0:w.ownsRow a1 e size (.slice ao n cap) n xs)(ad:Addr)(m c:Nat)(y:List Value)(hx:a.eval x=.slice (some ad) m c)(hl:y.length=m*size)(Y:∀j u,y[j]?=some u->w.cell? (ad.add j)=some u)(h1:∀u∈y,u.oneCell'=true)(a4:n+m<=maxLen)(G:(n+m)*bytes<=140737488355328)(Z:cap<n+m)(h:∀W w',w'.ownsRow w.heap.size e size W (n+m) (xs++y)->w.grownBy w' none->wpList P ops Q rest (a.put o.dst W) w'):wpList P ops Q (o :: rest) a w:=by
 refine wpList_plain aA λ_ hK=>?_;have a9:∃W w',(Builtin.append_ #[t,t] o.type #[.slice ao n cap,.slice (some ad) m c]).run P w=.ok W w'/\w'.ownsRow (fp w) e size W (n+m) (xs++y)/\iY w w':=by
  rcases a0 with⟨a7,⟨hv,h0⟩|⟨g,c',aB,hv,_,h2,h3,h4,h5,h6⟩⟩
  .injection hv with e1 e2 e3;subst e1 e2 e3;obtain rfl:xs=[]:=List.eq_nil_of_length_eq_zero af;let⟨W,w',H,r1,r2,_⟩:=run_append_own (P:=P) w (fp w) t o.type e i z size bytes ht hi hz J a2 a3 a5 (.slice none 0 0) 0 [] (eg w _ e size) ad m c y hl Y h1 a4 G<|bm _;exact⟨W,w',H,r1,r2⟩
  injection hv with e1 e2 e3;subst e1 e3;have a8:∀j u,xs[j]?=some u->w.cell? (((az g 0):Addr).add j)=some u:=λj u hu=>by
   have hj:j<n*size:=by
    have:=(cf.1 hu).1;omega
   rw[<-h6,dP,bf hj]at hu;have a6:dW w g j=some u:=by
    simp only[World.cell?,h2];simpa using hu
   grind[Addr.add]
  let⟨W,w',H,r1,r2⟩:=run_append_arg_grows (P:=P) w t o.type e i z size bytes ht hi hz J a2 a3 a5 (az g 0) n cap xs a7 a8 ad m c y hl Y Z a4 G;exact⟨W,w',H,r1,r2⟩
 obtain⟨W,w',hr,h2,h3⟩:=a9;unfold Oper.wp execOp;simp only[ho,resolve,invoke,builtin,Sem.run_bind,Sem.run_pure,Result.andThen_ok,List.map_toArray,List.map_cons,List.map_nil,hs,hx,hr];exact hK _ _<|h W w' h2 h3
def ib{b y size n:Nat}{v:Value}(h:w.ownsRow b e size v n xs)(G:y<=b):w.ownsRow y e size v n xs:=by
 rcases h with⟨u,o|⟨g,c,i,o,J,H⟩⟩
 .exact⟨u,ag o⟩
 exact⟨u,ak ⟨g,c,i,o,dQ G J,H⟩⟩
def PK(w w':aa)(v:Value)(n base:Nat)(xs:List Value)(y:Value)(e:Ending):Prop:=
 ∃g' c',e=.returned (.slice (some ⟨g',0,none⟩) (n+1) c')/\w'.ownsRow base 155 1 (.slice (some ⟨g',0,none⟩) (n+1) c') (n+1) (xs++[y])/\w.grownBy w' v.ownBlock/\(v.ownBlock=some g'\/w.heap.size<=g')
theorem EL(n i x:Nat)(y:Value)(xs:List Value)(hy:y.oneCell'=true)(w:aa)(ad:Option Addr)(c:Nat)(o:w.ownsRow i 155 1 (.slice ad n c) n xs)(hx:w.cell? (az x 0)=some y)(hb:i<=w.heap.size)(aB:n<=1000000000):Calls prog 203 #[.slice ad n c,ah n,dD x 1 1] w λe w'=>PK w w' (.slice ad n c) n i xs y e:=by
 let⟨i0,hi,a7,a4,a0⟩:=info_parts Tryz.qu;have HO:=bj o;have aC:n<=c:=by
  rcases o.2 with⟨h,h0⟩|⟨g',c',Z,J,_,_,h4,_⟩
  .omega
  injection J;omega
 have aD:(c:Int)<=9223372036854775807:=by
  rcases o.2 with⟨h,h0⟩|⟨g',c',Z,J,_,_,h4,h5,_⟩
  .grind
  injection J;unfold maxLen at h5;omega
 have G:n<c->∃g,ad=some (az g 0):=λa8=>by
  rcases o.2 with⟨h,h0⟩|⟨g',c',Z,J,_⟩
  .grind
  grind
 by_cases a8:n<c
 .obtain⟨g,rfl⟩:=G a8;go_in;go_wp2_with (at_builtin;refine oc rfl (.tmp 23) (.tmp 24) 136 rfl i 155 i0 _ 1 8 underlying136 hi a7 a4 a0 rfl eo _ _ _ _ rfl HO (az x 0) 1 1 [y] rfl rfl ?c1 ?c2 ?c3 ?c4 ?c5 ?c6 ?_)
  try case c1=>grind[Addr.add]
  try case c2=>grind
  try case c3=>unfold maxLen;omega
  try case c4=>omega
  try case c5=>exact hb
  try case c6=>omega
  intro w' W hg;go_wp2
  go_ret;exact⟨g,c,rfl,W,hg,ag rfl⟩
 have a6:(ad=none/\n=0/\c=0)\/∃g,ad=some (az g 0)/\n=c:=by
  rcases HO.2 with⟨h,h0⟩|⟨g',c',Z,J,_,_,h4,_⟩
  .grind
  injection J with a1 a2 a3;exact ak ⟨g',a1,af⟩
 rcases a6 with⟨rfl,rfl,rfl⟩|⟨g,rfl,rfl⟩
 .go_in;go_wp2_with (at_builtin;refine jD rfl (.tmp 23) (.tmp 24) 136 rfl 155 i0 _ 1 8 underlying136 hi a7 a4 a0 rfl eo i _ _ _ _ rfl HO (az x 0) 1 1 [y] rfl rfl ?c1 ?c2 ?c3 ?c4 ?c5 ?_)
  try case c1=>grind[Addr.add]
  try case c2=>grind
  try case c3=>simp[maxLen]
  try case c4=>omega
  try case c5=>omega
  intro v' w' W hg;obtain⟨g',c',rfl⟩:=ef W af;have a5:=(ik W).1;go_wp2
  go_ret;exact⟨g',c',rfl,ib W hb,hg,ak a5⟩
 go_in
 go_wp2_with (at_builtin;refine jD rfl (.tmp 23) (.tmp 24) 136 rfl 155 i0 (.pointer none) 1 8 underlying136 hi a7 a4 a0 rfl eo i (some<|az g 0) n n xs rfl HO (az x 0) 1 1 [y] rfl rfl ?c1 ?c2 pY ?c4 af ?_)
 try case c1=>grind[Addr.add]
 try case c2=>grind
 try case c4=>omega
 intro v' w' W hg;obtain⟨g',c',rfl⟩:=ef W af;have a5:=(ik W).1;go_wp2
 go_ret;exact⟨g',c',rfl,ib W hb,m9 hg g,ak a5⟩
end
namespace B
variable {nr p:Nat}{on:Nat->Bool}{s:St}{v:V}
theorem qX.up{e:Nat->Bool}{n:Nat}(h:qX on n v)(i:∀k,on k=true->e k=true):qX e n v:=by
 rcases h with h|⟨G,y,u,o⟩
 .exact Or.inl h
 exact Or.inr ⟨G,y,i _ u,o⟩
theorem FV{kd:Kd}{e n:Nat}{s':St}(h:jP kd nr n s)(y:s'.2.2=s.2.2)(u:∀p,Reach e s' p->Reach nr s p)(J:∀i,i<e->qX kd.on n (s'.2.1 i)):jP kd e n s':=
 ⟨J,λp o v Z=>h.h2 p (u p o) v (by simp_all),λc G=>by
  let⟨H,T,Y,W⟩:=h.h3 c G;grind⟩
theorem FY{kd:Kd}{n:Nat}(h:jP kd nr n s)(e:Reach nr s p)(i:Nat):qX kd.on n ((s.2.2 p).getD i (0,0))/\(((s.2.2 p).getD i (0,0)).1≠0->Reach nr s ((s.2.2 p).getD i (0,0)).1):=by
 by_cases hi:i<(s.2.2 p).length
 .grind[List.getElem?_eq_getElem,List.getElem_mem,kK,B.jP.h2]
 rw[List.getD_eq_getElem?_getD,List.getElem?_eq_none af];exact⟨Or.inl rfl,λh=>absurd rfl h⟩
def told(kd:Kd)(v:V):Kd:={kd with cy:=kd.cy.map (λc=>⟨(seen c.m c.st v).1,(seen c.m c.st v).2,c.nx⟩)}
def laid(kd:Kd)(p:Nat):Kd:={kd with on:=mark kd.on p,cy:=kd.cy.map (λc=>⟨mark c.m p,c.st,c.nx⟩)}
theorem gE.put{n:Nat}{M:Nat->List V}{c:Cy}{T:Nat->Prop}(o:gE on n M c T)(i:Nat)(Y:T p)(hv:qX on n v)(hr:v.1≠0->T v.1):gE on n (lay M p<|(M p).set i v) ⟨(seen c.m c.st<|(M p).getD i (0,0)).1,(seen c.m c.st<|(M p).getD i (0,0)).2,c.nx⟩ T:=by
 have Z:((M p).getD i (0,0)).1≠0->T ((M p).getD i (0,0)).1:=λy=>by
  by_cases hi:i<(M p).length
  .rw[List.getD_eq_getElem?_getD,List.getElem?_eq_getElem hi]at y⊢;exact(o.hb p Y _<|List.getElem_mem hi).2 y
  grind
 let⟨a,b,d⟩:=yP (v:=(M p).getD i (0,0)) o.hc o.hd o.he Z;refine⟨o.ha,λk W u H=>?_,a,b,d,λk W=>IX p i v<|o.hf k W,λy=>?_,o.hh,λk h1 h2 h3=>ug<|o.hi k h1 h2 h3⟩
 .by_cases e:k=p
  .subst e;simp only[iG]at H;rcases List.mem_or_eq_of_mem_set H with H|rfl
   .exact o.hb k W u H
   grind
  simp only[gm _ _ _ _ e]at H;exact o.hb k W u H
 grind[seen,B.gE.hg,B.gE.last]
theorem gE.new{n:Nat}{M:Nat->List V}{c:Cy}{T:Nat->Prop}(o:gE on n M c T){l:List V}(h1:1<=p)(h2:p<=n)(h3:on p=false)(hl:∀v,v∈l->qX on n v/\(v.1≠0->T v.1)):gE (mark on p) n (lay M p l) ⟨mark c.m p,c.st,c.nx⟩ (λk=>k=p\/T k):=by
 have hn:∀k,T k->k≠p:=by
  rintro k i rfl;have:=(o.ha k i).2.2;rw[h3]at this;cases this
 refine⟨λk i=>?_,λk i u y=>?_,λk i=>?_,λk i=>ld _<|o.hd k i,o.he,λk i=>?_,o.hg,o.hh,λk a1 a2 a3=>?_⟩
 .rcases i with rfl|i
  .grind[kF]
  have:=o.ha k i;grind[ld]
 .rcases i with rfl|i
  .grind[iG,ld,B.qX.up]
  rw[gm _ _ _ _<|hn k i]at y;have:=o.hb k i u y;grind[ld,B.qX.up]
 .grind[mark,gg,B.gE.hc]
 .intro S s1 s2 _ s4;have a0:∀k,k∈c.st->∀v,v∈lay M p l k->v.1≠0->S v.1:=s2;have a4:∀k,mark c.m p k=false->S k->∀v,v∈lay M p l k->v.1≠0->S v.1:=s4;rcases i with rfl|i
  .grind[kF]
  refine(o.hf k i (λk=>S k/\T k) (λk i=>⟨s1 k<|ld _ i,o.hc k i⟩) (λk i u y H=>?_) (λv hv=>by grind)<|λk hm i u y H=>?_).1
  .have J:=o.hc k<|o.hd k i;exact⟨a0 k i u (by grind[gm]) H,(o.hb k J u y).2 H⟩
  have Y:=hn k i.2;exact⟨a4 k (by grind[gg]) i.1 u (by grind[gm]) H,(o.hb k i.2 u y).2 H⟩
 grind[kF,gg,ld,B.gE.hi]
theorem sU{x i:Nat}(W:Reach nr s p)(J:v.1≠0->Reach nr s v.1){k:Nat}(H:Reach nr (x,s.2.1,lay s.2.2 p<|(s.2.2 p).set i v) k):Reach nr s k:=by
 refine H (Reach nr s) (λi hi y=>jS i hi y)<|λj G u o y=>?_;grind[iG,List.mem_or_eq_of_mem_set,kK,gm]
def FX{kd:Kd}{n:Nat}(h:jP kd nr n s)(x p i:Nat)(v:V)(hp:Reach nr s p)(hv:qX kd.on n v)(J:v.1≠0->Reach nr s v.1):jP (told kd<|(s.2.2 p).getD i (0,0)) nr n (x,s.2.1,lay s.2.2 p<|(s.2.2 p).set i v):=by
 refine⟨h.h1,λk W u o=>?_,λc hc=>?_⟩
 .have y:=sU hp J W;by_cases e:k=p
  .subst e;simp only[iG]at o;rcases List.mem_or_eq_of_mem_set o with o|rfl
   .exact h.h2 k y u o
   exact hv
  simp only[gm _ _ _ _ e]at o;exact h.h2 k y u o
 have H:kd.cy.map (λc:Cy=>(⟨(seen c.m c.st<|(s.2.2 p).getD i (0,0)).1,(seen c.m c.st<|(s.2.2 p).getD i (0,0)).2,c.nx⟩:Cy))=some c:=hc;rw[Option.map_eq_some_iff]at H;obtain⟨c0,Z,rfl⟩:=H;let⟨hx,T,Y,hs⟩:=h.h3 c0 Z;exact⟨hx,T,λk W=>Y k<|sU hp J W,hs.put i (Y p hp) hv<|λh0=>Y _<|J h0⟩
def AV{kd:Kd}{n:Nat}(h:jP kd nr n s)(hm:∀p,Reach nr s p->on p=true):jP ⟨on,none,kd.un,kd.fo+1,kd.cc⟩ nr n s:=by
 have e:∀v,qX kd.on n v->(v.1≠0->Reach nr s v.1)->qX on n v:=by
  intro v Y H;rcases Y with h|⟨W,h2,h3,Z⟩
  .exact Or.inl h
  exact Or.inr ⟨W,h2,hm _<|H af,Z⟩
 exact⟨λi hi=>e _ (h.h1 i hi)<|λo=>jS i hi o,λk G u y=>e _ (h.h2 k G u y)<|λo=>kK G y o,λc J=>by cases J⟩
def unit(M:Nat->List V)(on:Nat->Bool)(c:Cy):(Nat->Bool)×Cy:=
 match c.st.getLast? with
 |some p=>(on,Cv M c c.st.dropLast p)
 |none=>(mC on c,look c)
theorem od{M:Nat->List V}{c:Cy}{e:List Nat}(h:c.st=e++[p]):unit M on c=(on,Cv M c e p):=by
 grind[unit]
theorem og{M:Nat->List V}{c:Cy}(h:c.st=[]):unit M on c=(mC on c,look c):=by
 grind[unit]
def eL(M:Nat->List V)(n:Nat):Nat->Kd->Kd
 |0,kd=>kd
 |u+1,kd=>
  match kd.cy with
  |none=>kd
  |some c=>eL M n u (if(unit M kd.on c).2.nx=n then⟨(unit M kd.on c).1,none,kd.un+1,kd.fo,kd.cc+1⟩ else⟨(unit M kd.on c).1,some (unit M kd.on c).2,kd.un+1,kd.fo,kd.cc⟩)
def work(R:Nat->V)(nr:Nat)(M:Nat->List V)(n u:Nat)(kd:Kd):Kd:=
 eL M n u (match kd.cy with|none=>{kd with cy:=some (begun R nr)}|some _=>kd)
theorem qf{n:Nat}{M:Nat->List V}{c:Cy}{T:Nat->Prop}(h:gE on n M c T)(hx:c.nx<n):gE (unit M on c).1 n M (unit M on c).2 T:=by
 rcases List.eq_nil_or_concat c.st with e|⟨i,p,e⟩
 .grind[og,B.gE.look]
 rw[List.concat_eq_append]at e;rw[od e];exact h.Cv e
theorem nG{M:Nat->List V}{c:Cy}(h:(unit M on c).1 p=true):on p=true:=by
 rcases List.eq_nil_or_concat c.st with e|⟨i,q,e⟩
 .rw[og e]at h;grind[ki]
 rw[List.concat_eq_append]at e;rw[od e]at h;exact h
def xX{kd kd':Kd}{n:Nat}{T:Nat->Prop}(h:jP kd nr n s)(J:∀p,Reach nr s p->T p)(ho:∀p,T p->kd'.on p=true)(H:∀c,kd'.cy=some c->c.nx<n/\gE kd'.on n s.2.2 c T):jP kd' nr n s:=by
 have e:∀v,qX kd.on n v->(v.1≠0->Reach nr s v.1)->qX kd'.on n v:=by
  intro v Z W;rcases Z with h|⟨Y,h2,h3,h4⟩
  .exact Or.inl h
  exact Or.inr ⟨Y,h2,ho _<|J _<|W af,h4⟩
 exact⟨λi hi=>e _ (h.h1 i hi)<|λo=>jS i hi o,λk G u y=>e _ (h.h2 k G u y)<|λo=>kK G y o,λc h=>⟨(H c h).1,T,J,(H c h).2⟩⟩
theorem vp{kd:Kd}{n:Nat}(h:jP kd nr n s)(hn:1<=n):jP {kd with cy:=some (begun s.2.1 nr)} nr n s:=
 xX (T:=Reach nr s) h (λ_ h=>h) (λ_ i=>(mn h i).1) (λc e=>by
  grind[begun,oQ])
def mD(M:Nat->List V)(n:Nat)(kd:Kd)(c:Cy):Kd:=if(unit M kd.on c).2.nx=n then⟨(unit M kd.on c).1,none,kd.un+1,kd.fo,kd.cc+1⟩ else⟨(unit M kd.on c).1,some (unit M kd.on c).2,kd.un+1,kd.fo,kd.cc⟩
def tj{kd:Kd}{n:Nat}{c:Cy}(h:jP kd nr n s)(u:kd.cy=some c):jP (mD s.2.2 n kd c) nr n s:=by
 let⟨J,T,G,W⟩:=h.h3 c u;have e:=qf W J;unfold mD;split
 .exact xX (T:=T) h G (λp o=>(e.ha p o).2.2)<|λc u=>by cases u
 rename_i y;refine xX (T:=T) h G (λp o=>(e.ha p o).2.2)<|λH i=>?_;have:(unit s.2.2 kd.on c).2=H:=by injection i
 subst this;exact⟨Nat.lt_of_le_of_ne e.hh y,e⟩
def uE{M:Nat->List V}{n u:Nat}{kd:Kd}{c:Cy}(h:kd.cy=some c):eL M n (u+1) kd=eL M n u (mD M n kd c):=by
 rw[eL,h];rfl
theorem qL{M:Nat->List V}{n u:Nat}{kd:Kd}(h:kd.cy=none):eL M n u kd=kd:=by
 cases u with
 |zero=>rfl
 |succ u=>rw[eL,h]
end B
section
def vT(k:Bool):Value:=.int .u8 (if k=true then 1 else 0)
def qg(k:Bool)(vb ln:Nat):Value:=if k=true then .slice (some ⟨vb,0,none⟩) ln ln else .slice none 0 0
def jT(kd:Nat->Bool)(vb:Nat->Nat)(M:Nat->List B.V):Nat->Value:=λj=>
 if j%3=0 then vT (kd<|j/3+1) else if j%3=1 then .int .i64 0 else qg (kd<|j/3+1) (vb<|j/3+1) (M<|j/3+1).length
abbrev mh(M:Nat->List B.V)(p:Nat):Nat->B.V:=λi=>(M p).getD i (0,0)
structure pt(w:aa) (pb n:Nat) (on:Nat->Bool) (f:Nat->Nat) (M:Nat->List B.V):Prop where
 p:Full w pb 228 (n*3) (n*3) (jT on f M)
 s:∀p,1<=p->p<=n->on p=true->Full w (f p) 149 ((M p).length*2) ((M p).length*2) (eR<|mh M p)
 i:∀p q,1<=p->p<=n->1<=q->q<=n->on p=true->on q=true->f p=f q->p=q
 l:∀p,on p=true->(M p).length<=8
theorem pt.block{w w':aa}{pb n:Nat}{on:Nat->Bool}{f:Nat->Nat}{M:Nat->List B.V}(h:pt w pb n on f M)(o:w'.heap[pb]?=w.heap[pb]?)(e:∀p,1<=p->p<=n->on p=true->w'.heap[f p]?=w.heap[f p]?):pt w' pb n on f M:=
 ⟨h.p.block o,λp a b c=>(h.s p a b c).block<|e p a b c,h.i,h.l⟩
def n6(st:List Nat):List Value:=st.map<|λp=>.int .i64 ((p-1:Nat):Int)
def xC(e:List Nat):(n6 e).length=e.length:=by simp[n6]
def Bi(a b:List Nat):n6 (a++b)=n6 a++n6 b:=by simp[n6]
structure nA(w:aa) (cb rd sb n:Nat) (ad:Option Addr) (cap:Nat) (c:B.Cy):Prop where
 b:w.heap[cb]?=some (.cells #[P0 sb,.slice (some ⟨rd,0,none⟩) n n,.slice ad c.st.length cap,.int .i64 c.nx] 275 (0,0))
 r:Full w rd 4 n n (λj=>.bool<|c.m<|j+1)
 q:gj w 3 (.slice ad c.st.length cap) (n6 c.st)
def fk(ad:Option Addr):Option Nat:=ad.map (·.block)
theorem dJ(ad:Option Addr)(n c:Nat):(Value.slice ad n c).ownBlock=fk ad:=by cases ad<;>rfl
def pr(cb rd:Nat)(ad:Option Addr)(k:Nat):Prop:=k=cb\/k=rd\/fk ad=some k
theorem nA.block{w w':aa}{cb i sb n:Nat}{ad:Option Addr}{cap:Nat}{c:B.Cy}(h:nA w cb i sb n ad cap c)(o:∀k,pr cb i ad k->w'.heap[k]?=w.heap[k]?):nA w' cb i sb n ad cap c:=
 ⟨(o cb<|ag rfl).trans h.b,h.r.block<|o i<|ak<|ag rfl,h.q.block<|λk e=>o k<|ak<|ak<|by grind[dJ]⟩
theorem nA.lt{w:aa}{cb i sb n:Nat}{ad:Option Addr}{cap:Nat}{c:B.Cy}(h:nA w cb i sb n ad cap c)(k:Nat)(e:pr cb i ad k):k<w.heap.size:=by
 rcases e with rfl|rfl|e
 .exact ch h.b
 .exact h.r.lt
 exact h.q.lt k<|by grind[dJ]
theorem nA.ty{w:aa}{cb u sb n:Nat}{ad:Option Addr}{cap:Nat}{c:B.Cy}(h:nA w cb u sb n ad cap c)(k:Nat)(i:pr cb u ad k):∃e T,w.heap[k]?=some (.cells e T (0,0))/\(T=275\/T=4\/T=3):=by
 rcases i with rfl|rfl|i
 .exact⟨_,_,h.b,ag rfl⟩
 .let⟨e,o,_⟩:=h.r;grind
 let⟨e,o⟩:=h.q.ty k (by grind[dJ]);grind
theorem nA.kept{w w':aa}{cb i sb n:Nat}{ad:Option Addr}{cap:Nat}{c:B.Cy}(h:nA w cb i sb n ad cap c)(u:w.grownBy w' none):nA w' cb i sb n ad cap c:=
 h.block (λk o=>u.block k (h.lt k o) ey)
structure Vs where
 f:Nat->Nat
 cb:Nat
 rd:Nat
 ad:Option Addr
 cap:Nat
variable {w w':aa}{xs:List B.V}
def Co:Vs:=⟨λ_=>0,0,0,none,0⟩
def An(kd:B.Kd)(vb:Vs):Value:=if kd.cy.isSome=true then P0 vb.cb else .pointer none
structure kG(w:aa) (sb pb eb n:Nat) (kd:B.Kd) (vb:Vs) (M:Nat->List B.V):Prop where
 b:w.heap[sb]?=some (.cells #[.slice (some ⟨pb,0,none⟩) n n,.func (.func 59) #[P0 eb] #[],An kd vb,.int .i64<|wrap64 (kd.un:Int),.int .i64<|wrap64 (kd.fo:Int),.int .i64<|wrap64 (kd.cc:Int)] 207 (0,0))
 p:pt w pb n kd.on vb.f M
 c:∀c,kd.cy=some c->nA w vb.cb vb.rd sb n vb.ad vb.cap c
def Own(n:Nat)(kd:B.Kd)(vb:Vs)(k:Nat):Prop:=(∃p,1<=p/\p<=n/\kd.on p=true/\vb.f p=k)\/(kd.cy.isSome=true/\pr vb.cb vb.rd vb.ad k)
theorem kG.block{w w':aa}{sb pb eb n:Nat}{kd:B.Kd}{vb:Vs}{M:Nat->List B.V}(h:kG w sb pb eb n kd vb M)(u:w'.heap[sb]?=w.heap[sb]?)(y:w'.heap[pb]?=w.heap[pb]?)(i:∀k,Own n kd vb k->w'.heap[k]?=w.heap[k]?):kG w' sb pb eb n kd vb M:=
 ⟨u.trans h.b,h.p.block y<|λp a b c=>i _<|ag ⟨p,a,b,c,rfl⟩,λc e=>(h.c c e).block<|λk o=>i k<|ak ⟨ey,o⟩⟩
theorem eI{a b:Nat}{x y:Array Value}{S T:TypeId}{f g:Nat×Nat}(i:w.heap[a]?=some (.cells x S f))(e:w.heap[b]?=some (.cells y T g))(h:S≠T):a≠b:=by
 grind
theorem tO(sb:Nat)(x:Int)(w:aa):dC 202 #[P0 sb,vA (0,x)] w (.agg #[dz 0,ah 0,.slice none 0 0]) λw'=>w.grownBy w' none:=by
 have hi:=oU (0,x);simp only[ne_eq,not_true,decide_false]at hi;have H:=bj hi;delta dC;go_in;go_wp2_with fail
 refine dq (H _) λw1 o=>?_;have i:w1.heap[w.heap.size+1]?=ny #[dz 0,ah 0,.slice none 0 0] 228:=by
  refine(o.block _ eG ey).trans ?_;have:=bl (gG w #[ah ((0:Nat):Int),ah x] 149)<|.cells #[dz 0,ah 0,.slice none 0 0] 228;simpa using this
 have u:=bj<|ar (ax (aj w _ none) _) o;have G:dW w1 (w.heap.size+1) 0=some (dz 0):=fj i
 have J:dW w1 (w.heap.size+1) 1=some (ah 0):=fj i
 have y:dW w1 (w.heap.size+1) 2=some (.slice none 0 0):=fj i
 have t0:w1.frozen? (az (w.heap.size+1) 0)=false:=pk i
 have Z:w1.frozen? (az (w.heap.size+1) 1)=false:=pk i
 have Y:w1.frozen? (az (w.heap.size+1) 2)=false:=pk i
 clear o i;go_wp2
 refine dg (v:=.agg #[dz 0,ah 0,.slice none 0 0]) (by simp[results,results202,go_sem,G,J,y]) rfl ⟨rfl,?_⟩;repeat (first|exact u|refine bo ?_|refine ax ?_ _|refine bu ?_ (ak eG) _)
abbrev jF(op a b c fb tb eb:Nat):Obj:=.cells #[.int .u8 op,.int .u8 a,.int .u8 b,.int .u8 c,P0 fb,P0 tb,P0 eb] 186 (0,0)
def fe{sb op a b c fb tb eb:Nat}(h:w'.heap[sb]?=some (jF op a b c fb tb eb)):w'.cell? (az sb 0)=some (dz op)/\w'.cell? (az sb 1)=some (dz a)/\w'.cell? (az sb 2)=some (dz b)/\w'.cell? (az sb 3)=some (dz c)/\w'.cell? (az sb 4)=some (P0 fb)/\w'.cell? (az sb 5)=some (P0 tb)/\w'.cell? (az sb 6)=some (P0 eb):=by
 simp[World.cell?,h]
def iU(w:aa)(op a b c fb tb eb:Nat):(w.alloc<|.cells #[dz op,dz a,dz b,dz c,P0 fb,P0 tb,P0 eb] 186).heap[w.heap.size]?=some (jF op a b c fb tb eb):=bl w _
theorem dw(h:w.grownBy w' none){k:Nat}{o:Obj}(i:w.heap[k]?=some o):w'.heap[k]?=some o:=da h i ey
theorem wL(x:Bool)(w:aa):Calls prog 92 #[.bool x] w λe w'=>e=.returned (.int .i64 (if x=true then 1 else 0))/\w'=w:=by
 cases x
 .go_in;go_wp2_with fail
  go_ret;simp_all
 go_in;go_wp2_with fail
 go_ret;simp_all
theorem OM(x y:B.V)(w:aa):(binOp .eql 149 (vA x)<|vA y).run prog w=.ok (.bool (decide (x=y))) w:=by
 obtain⟨e,o⟩:=x;obtain⟨i,u⟩:=y;have G:((e:Int)=i)↔e=i:=af
 simp[go_sem];grind
theorem EM(op a b c fb tb eb cb L nx rb nr:Nat)(back:Value)(R:Nat->B.V)(hb:b<nr)(hc:c<nr)(w:aa)(hF:Fr w fb cb L nx rb nr back R):dC 93 #[ee op a b c fb tb eb] w (vA (0,if R b=R c then 1 else 0)) λw'=>w.grownBy w' none:=by
 have KF:=bj hF;clear hF;have a2:=OM (R b)<|R c;have Y:(if decide (R b=R c)=true then(1:Int) else 0)=(if R b=R c then 1 else 0):=by by_cases h:R b=R c<;>simp[h]
 rw[<-Y];clear Y;generalize decide (R b=R c)=d at*;generalize hy:(if d=true then(1:Int) else 0)=y;have HY:=bj hy;clear hy;delta dC;go_in;go_wp2_with fail
 generalize hW:(w.alloc<|.cells #[dz (op:Int),dz (a:Int),dz (b:Int),dz (c:Int),P0 fb,P0 tb,P0 eb] 186).alloc (.cells #[ah 0,ah 0] 149)=w1;have G:Hid (iY w w1):=by rw[<-hW];exact ax (aj _ _ _) _
 have hx:w1.heap[fp w]?=some (jF op a b c fb tb eb):=by rw[<-hW,au _ _ _ eG];exact bl w _
 have hr:w1.heap[w.heap.size+1]?=ny #[ah 0,ah 0] 149:=by
  rw[<-hW];have:=bl (gG w #[dz (op:Int),dz (a:Int),dz (b:Int),dz (c:Int),P0 fb,P0 tb,P0 eb] 186)<|.cells #[ah 0,ah 0] 149;simpa using this
 clear hW;have Z:=bj hx;have HR:=bj hr;clear hx hr;let⟨x0,x1,x2,x3,x4,x5,x6⟩:=fe Z;go_region_with (first
   |(go_at_call 86;refine dq (sA op a b c fb tb eb cb L nx rb nr back R w1.drew (KF.kept G).1 (KF.kept G).2.1 hb) λw2 o=>?_;have u:Hid (iY w1 w2):=⟨o.os,o.tape,o.output,o.size,o.block⟩;clear o;let⟨x0,x1,x2,x3,x4,x5,x6⟩:=fe<|dw u Z)
   |(go_at_call 94;refine dq (tP op a b c fb tb eb cb L nx rb nr back R w2 (KF.kept<|ar G u).1 (KF.kept<|ar G u).2.1 hc) λH J=>?_;have W:=bj<|ar u J;clear J;have i:=dw W HR;have r0:H.cell? (az (w.heap.size+1) 0)=some (ah 0):=(by simp[World.cell?,i]);have r1:H.cell? (az (w.heap.size+1) 1)=some (ah 0):=(by simp[World.cell?,i]);have r2:H.frozen? (az (w.heap.size+1) 0)=false:=(by simp[World.frozen?,i]);have r3:H.frozen? (az (w.heap.size+1) 1)=false:=(by simp[World.frozen?,i]);have a0:=ch i;clear i)
   |(go_at_call 92;refine(wL d H).mono ?_;rw[HY.out];rintro e w4 ⟨rfl,rfl⟩)
   |(go_at_call 61;refine dq (fK y _) ?_;rintro w5 rfl))
 all_goals
  go_wp2_with fail
  refine dg (v:=vA (0,y)) (by simp[results,results93,go_sem,a0,r0,r1]) rfl ⟨rfl,?_⟩;exact ax (bu (bu (ar G W) (ak eG) _) (ak eG) _) _
theorem Mt(v:B.V)(g c n:Nat)(ad:Option Addr)(xs:List B.V)(w:aa)(hn:n=xs.length)(aA:n<=1000000000)(a2:∀j x,xs[j]?=some x->ad=some (az g 0)/\w.cell? (az g<|j*2)=some (ah x.1)/\w.cell? (az g<|j*2+1)=some (ah x.2))(lg:xs≠[]->g<w.heap.size):Calls prog 231 #[.slice ad n c,vA v] w λe w'=>(∃z:Int,e=.returned (ah z)/\((z<0/\v∉xs)\/(0<=z/\v∈xs)))/\w.grownBy w' none:=by
 obtain⟨y,u⟩:=v;change Hid _ at a2 hn lg;go_in;go_wp2_with fail
 generalize W:w.alloc (.cells #[ah y,ah u] 149)=w1;have KG:Hid (iY w w1):=by rw[<-W];exact aj _ _ _
 have a3:w1.heap[fp w]?=ny #[ah y,ah u] 149:=by rw[<-W];exact bl w _
 have HB:=bj a3;go_loopw[8] (λi wr=>∃j:Nat,i=ah j/\j<=n/\Hid (∀k x,k<j->xs[k]?=some x->x≠(y,u))/\Hid (iY w1 wr)) (λi _=>n-(intOf i).toNat)
 case atStart=>exact⟨0,rfl,af,(λk x hk=>dr hk af),aw _ _⟩
 case round=>
  obtain⟨j,rfl,hj,rN,rG⟩:=hrel;by_cases aC:j<n
  .obtain⟨x,hx⟩:∃x,xs[j]?=some x:=⟨_,bw<|gD hn.out⟩;obtain⟨H,J⟩:=x;obtain⟨rfl,ca,cb⟩:=a2 j (H,J) hx;have Y:=eh hx;have a4:=lg ey;have Z:=ar KG rG;have c0:dW wr g (j*2)=some (ah H):=(ay Z (a:=az g<|j*2) a4).1.trans ca;have c1:dW wr g (j*2+1)=some (ah J):=(ay Z (a:=az g<|j*2+1) a4).1.trans cb;have a0:=da rG HB ey;have b0:dW wr (fp w) 0=some (ah y):=fj a0
   have b1:dW wr (fp w) 1=some (ah u):=fj a0
   have a9:(j:Int)<n:=af
   have a1:∀w0,(binOp .eql 149 (vA (y,u))<|vA (H,J)).run prog w0=.ok (.bool (decide ((y,u)=(H,J)))) w0:=λw0=>OM (y,u) (H,J) w0;have HX:=bj hx;by_cases o:((y,u):B.V)=(H,J)
   .have hd:decide (((y,u):B.V)=(H,J))=true:=iE o
    rw[hd]at a1;have HV:=bj o;go_wp2
    go_quiet (fail)
    go_wp2
    go_ret;refine⟨⟨(j:Int),rfl,ak ⟨af,?_⟩⟩,ar KG<|df rG _⟩;grind
   have hd:decide (((y,u):B.V)=(H,J))=false:=iE o
   rw[hd]at a1;have HV:=bj o;go_wp2
   go_quiet (fail)
   go_wp2_with fail
   have a7:Hid (∀k x,k<j+1->xs[k]?=some x->x≠(y,u)):=λk x hk G e=>by
    by_cases a6:k=j
    .subst a6;rw[HX.out]at G;injection G with G;exact HV<|by rw[G,e]
    exact rN k x af G e
   go_roundw
   case rel=>exact⟨j+1,iI,af,a7,df rG _⟩
   case measure=>simp[intOf];omega
  have a8:¬(j:Int)<n:=af
  go_wp2
  go_ret;refine⟨⟨-1,rfl,ag ⟨af,λhm=>?_⟩⟩,ar KG rG⟩;let⟨k,hk⟩:=List.getElem?_of_mem hm;have aB:=(cf.1 hk).1;exact rN k _ (gD hn.out) hk rfl
theorem xi(v:B.V)(g c n:Nat)(ad:Option Addr)(xs:List B.V)(w:aa)(hn:n=xs.length)(Y:n<=1000000000)(y:∀j x,xs[j]?=some x->ad=some (az g 0)/\w.cell? (az g<|j*2)=some (ah x.1)/\w.cell? (az g<|j*2+1)=some (ah x.2))(lg:xs≠[]->g<w.heap.size):dC 224 #[.slice ad n c,vA v] w (.bool (decide (v∈xs))) λw'=>w.grownBy w' none:=by
 have HI:Hid (∀w1,iY w w1->Calls prog 231 #[.slice ad n c,vA v] w1 λe w'=>(∃z:Int,e=.returned (ah z)/\((z<0/\v∉xs)\/(0<=z/\v∈xs)))/\iY w1 w'):=λw1 i=>by
  refine Mt v g c n ad xs w1 hn Y (λj x hx=>?_)<|λh=>dm (lg h) i.size;let⟨a1,a2,a3⟩:=y j x hx;have u:=eh hx;have J:=lg ey;exact⟨a1,(ay i (a:=az g<|j*2) J).1.trans a2,(ay i (a:=az g<|j*2+1) J).1.trans a3⟩
 clear y lg hn;obtain⟨v1,v2⟩:=v;delta dC;go_in;go_wp2_with fail
 generalize o:w.alloc (.cells #[ah v1,ah v2] 149)=w1;have KG:Hid (iY w w1):=by rw[<-o];exact aj _ _ _
 refine(HI w1 KG).mono ?_;rintro e w2 ⟨⟨z,rfl,hz⟩,i⟩;have G:=bj<|ar KG i;rcases hz with⟨hz,H⟩|⟨hz,H⟩
 .have Z:=bj H;have W:¬0<=z:=af
  go_wp2
  go_ret;exact⟨by simp_all,G⟩
 have Z:=bj H;go_wp2
 go_ret;exact⟨by simp[Z.out],G⟩
def ij(xs:List B.V):List Value:=xs.flatMap<|λv=>[.int .i64 (v.1:Int),.int .i64 v.2]
theorem wE(x:B.V)(xs:List B.V):ij (x :: xs)=ah x.1 :: ah x.2 :: ij xs:=rfl
theorem kS:∀e,(ij e).length=e.length*2
 | []=>rfl
 |x :: e=>by rw[wE,List.length_cons,List.length_cons,kS e,List.length_cons];omega
theorem ri(xs ys:List B.V):ij (xs++ys)=ij xs++ij ys:=by simp[ij,List.flatMap_append]
theorem oM:∀(xs:List B.V) (j:Nat) (x:B.V),xs[j]?=some x->(ij xs)[j*2]?=some (ah x.1)/\(ij xs)[j*2+1]?=some (ah x.2)
 | [],j,x,h=>by grind
 |y :: xs,0,x,h=>by
  simp at h;subst h
  exact⟨rfl,rfl⟩
 |y :: xs,j+1,x,h=>by
  have:=oM xs j x ey;grind[wE]
theorem BA{o g n c:Nat}(hb:o<=g)(hn:n<=c)(hm:c<=maxLen)(hl:xs.length=n)(Y:jQ w g 149 (c*2))(hx:∀j x,xs[j]?=some x->w.cell? (az g<|j*2)=some (ah x.1)/\w.cell? (az g<|j*2+1)=some (ah x.2)):w.ownsRow o 149 2 (dD g n c) n (ij xs):=by
 obtain⟨y,G,h2⟩:=Y;refine⟨by rw[kS,hl],ak ⟨g,c,y,rfl,hb,G,hn,hm,h2,?_⟩⟩;apply List.ext_getElem?
 intro i;by_cases hi:i<n*2
 .obtain⟨x,u⟩:∃x,xs[i/2]?=some x:=⟨_,bw af⟩;let⟨H,J⟩:=hx (i/2) x u;let⟨Z,W⟩:=oM xs (i/2) x u;rw[dP,bf hi];grind[World.cell?]
 grind[List.getElem?_eq_none,kS]
theorem rY{e g n c:Nat}(h:w.ownsRow e 149 2 (dD g n c) n (ij xs)):e<=g/\n<=c/\c<=maxLen/\xs.length=n/\jQ w g 149 (c*2)/\∀j x,xs[j]?=some x->w.cell? (az g<|j*2)=some (ah x.1)/\w.cell? (az g<|j*2+1)=some (ah x.2):=by
 rcases h with⟨hl,⟨h,_⟩|⟨g',c',i,J,h2,H,Z,Y,W,y⟩⟩
 .cases h
 cases J;rw[kS]at hl;refine⟨h2,Z,Y,af,⟨i,H,W⟩,λj x G=>?_⟩;have hj:=(cf.1 G).1;let⟨u,o⟩:=oM xs j x G;rw[<-y,dP,mL]at u;rw[<-y,dP,mL]at o;grind[World.cell?]
end
section
def jE(s:ByteArray)(p f r l:Int):Obj:=.cells #[.string s,.int .i64 p,.int .i64 f,.int .i64 r,.int .i64 l] 128 (0,0)
def kX(s:ByteArray)(p:Int)(bad:Bool):Obj:=.cells #[.string s,.int .i64 p,.bool bad] 124 (0,0)
section
variable {w:aa}{b:Nat}{s:ByteArray}{p f r l:Int}
def fF(h:w.heap[b]?=some (jE s p f r l)):w.cell? (az b 0)=some (.string s)/\w.cell? (az b 1)=some (ah p)/\w.cell? (az b 2)=some (ah f)/\w.cell? (az b 3)=some (ah r)/\w.cell? (az b 4)=some (ah l):=by
 simp[World.cell?,h,jE]
def jn(h:w.heap[b]?=some (jE s p f r l)):w.frozen? (az b 1)=false/\w.frozen? (az b 2)=false/\w.frozen? (az b 3)=false/\w.frozen? (az b 4)=false:=by
 simp[World.frozen?,h,jE]
def uP(h:w.heap[b]?=some (jE s p f r l))(v:Int):(w.setCell (az b 1)<|ah v).heap[b]?=some (jE s v f r l):=by
 simp[World.setCell,dp,h,jE]
def ET(h:w.heap[b]?=some (jE s p f r l))(v:Int):(w.setCell (az b 2)<|ah v).heap[b]?=some (jE s p v r l):=by
 simp[World.setCell,dp,h,jE]
theorem uO(h:w.heap[b]?=some (jE s p f r l))(v:Int):(w.setCell (az b 3)<|ah v).heap[b]?=some (jE s p f v l):=by
 simp[World.setCell,dp,h,jE]
theorem ze(h:w.heap[b]?=some (jE s p f r l))(v:Int):(w.setCell (az b 4)<|ah v).heap[b]?=some (jE s p f r v):=by
 simp[World.setCell,dp,h,jE]
end
section
variable {w:aa}{b:Nat}{s:ByteArray}{p:Int}{bad:Bool}
def iK(h:w.heap[b]?=some (kX s p bad)):w.cell? (az b 0)=some (.string s)/\w.cell? (az b 1)=some (ah p)/\w.cell? (az b 2)=some (.bool bad):=by
 simp[World.cell?,h,kX]
def lT(h:w.heap[b]?=some (kX s p bad)):w.frozen? (az b 1)=false/\w.frozen? (az b 2)=false:=by
 simp[World.frozen?,h,kX]
def ES(h:w.heap[b]?=some (kX s p bad))(v:Int):(w.setCell (az b 1)<|ah v).heap[b]?=some (kX s v bad):=by
 simp[World.setCell,dp,h,kX]
def y9(h:w.heap[b]?=some (kX s p bad))(v:Bool):(w.setCell (az b 2)<|.bool v).heap[b]?=some (kX s p v):=by
 simp[World.setCell,dp,h,kX]
end
end
namespace F
structure Fb where
 b:Nat->Nat
 k:Nat->Nat
def Lb(k:Bool)(t:Nat):Nat:=if k=true then(if t=0 then 1 else 2) else 0
def vT(k:Bool)(t:Nat):Value:=.int .u8<|Lb k t
def Dy(k:Bool)(t:Nat):Nat:=if k=true then t-1 else 0
def jT(kd:Nat->Bool)(vb:Fb)(M:Nat->List B.V):Nat->Value:=λj=>
 if j%3=0 then vT (kd<|j/3+1) (vb.k<|j/3+1) else if j%3=1 then .int .i64 (Dy (kd<|j/3+1) (vb.k<|j/3+1):Nat) else qg (kd<|j/3+1) (vb.b<|j/3+1) (M<|j/3+1).length
theorem zl(kd:Nat->Bool)(vb:Fb)(M:Nat->List B.V)(k:Nat):jT kd vb M (k*3)=vT (kd<|k+1) (vb.k<|k+1):=by
 simp[jT,mL]
theorem zk(kd:Nat->Bool)(vb:Fb)(M:Nat->List B.V)(k:Nat):jT kd vb M (k*3+1)=ah (Dy (kd<|k+1) (vb.k<|k+1):Nat):=by
 unfold jT;grind
theorem tH(kd:Nat->Bool)(vb:Fb)(M:Nat->List B.V)(k:Nat):jT kd vb M (k*3+2)=qg (kd<|k+1) (vb.b<|k+1) (M<|k+1).length:=by
 unfold jT;grind
structure pt(w:aa) (pb n:Nat) (on:Nat->Bool) (f:Fb) (M:Nat->List B.V):Prop where
 p:Full w pb 228 (n*3) (n*3) (jT on f M)
 s:∀p,1<=p->p<=n->on p=true->Full w (f.b p) 149 ((M p).length*2) ((M p).length*2) (eR<|mh M p)
 i:∀p q,1<=p->p<=n->1<=q->q<=n->on p=true->on q=true->f.b p=f.b q->p=q
 l:∀p,on p=true->(M p).length<=8
 k:∀p,on p=true->f.k p≠0->(M p).length=1
theorem pt.block{w w':aa}{pb n:Nat}{on:Nat->Bool}{f:Fb}{M:Nat->List B.V}(h:pt w pb n on f M)(o:w'.heap[pb]?=w.heap[pb]?)(e:∀p,1<=p->p<=n->on p=true->w'.heap[f.b p]?=w.heap[f.b p]?):pt w' pb n on f M:=
 ⟨h.p.block o,λp a b c=>(h.s p a b c).block<|e p a b c,h.i,h.l,h.k⟩
theorem pt.kept{w w':aa}{pb n:Nat}{on:Nat->Bool}{f:Fb}{M:Nat->List B.V}(h:pt w pb n on f M)(i:w.grownBy w' none):pt w' pb n on f M:=
 h.block (i.block pb h.p.lt ey) (λp a b c=>i.block _ (h.s p a b c).lt ey)
structure Vs where
 f:Fb
 cb:Nat
 rd:Nat
 ad:Option Addr
 cap:Nat
def Co:Vs:=⟨⟨λ_=>0,λ_=>0⟩,0,0,none,0⟩
def An(kd:B.Kd)(vb:Vs):Value:=if kd.cy.isSome=true then P0 vb.cb else .pointer none
structure kG(w:aa) (sb pb eb n:Nat) (kd:B.Kd) (vb:Vs) (M:Nat->List B.V):Prop where
 b:w.heap[sb]?=some (.cells #[.slice (some ⟨pb,0,none⟩) n n,.func (.func 59) #[P0 eb] #[],An kd vb,.int .i64<|wrap64 (kd.un:Int),.int .i64<|wrap64 (kd.fo:Int),.int .i64<|wrap64 (kd.cc:Int)] 207 (0,0))
 p:pt w pb n kd.on vb.f M
 c:∀c,kd.cy=some c->nA w vb.cb vb.rd sb n vb.ad vb.cap c
def Own(n:Nat)(kd:B.Kd)(vb:Vs)(k:Nat):Prop:=(∃p,1<=p/\p<=n/\kd.on p=true/\vb.f.b p=k)\/(kd.cy.isSome=true/\pr vb.cb vb.rd vb.ad k)
theorem kG.block{w w':aa}{sb pb eb n:Nat}{kd:B.Kd}{vb:Vs}{M:Nat->List B.V}(h:kG w sb pb eb n kd vb M)(u:w'.heap[sb]?=w.heap[sb]?)(y:w'.heap[pb]?=w.heap[pb]?)(i:∀k,Own n kd vb k->w'.heap[k]?=w.heap[k]?):kG w' sb pb eb n kd vb M:=
 ⟨u.trans h.b,h.p.block y<|λp a b c=>i _<|ag ⟨p,a,b,c,rfl⟩,λc e=>(h.c c e).block<|λk o=>i k<|ak ⟨ey,o⟩⟩
theorem kG.lt{w:aa}{sb pb eb n:Nat}{kd:B.Kd}{vb:Vs}{M:Nat->List B.V}(h:kG w sb pb eb n kd vb M)(k:Nat)(e:Own n kd vb k):k<w.heap.size:=by
 rcases e with⟨p,a,b,c,rfl⟩|⟨i,e⟩
 .exact(h.p.s p a b c).lt
 let⟨c,i⟩:=Option.isSome_iff_exists.1 i;exact(h.c c i).lt k e
theorem kG.kept{w w':aa}{sb pb eb n:Nat}{kd:B.Kd}{vb:Vs}{M:Nat->List B.V}(h:kG w sb pb eb n kd vb M)(i:w.grownBy w' none):kG w' sb pb eb n kd vb M:=
 h.block (i.block sb (ch h.b) ey) (i.block pb h.p.p.lt ey) (λk o=>i.block k (h.lt k o) ey)
theorem kG.ty{w:aa}{sb pb eb n:Nat}{kd:B.Kd}{vb:Vs}{M:Nat->List B.V}(h:kG w sb pb eb n kd vb M)(k:Nat)(i:Own n kd vb k):∃e T,w.heap[k]?=some (.cells e T (0,0))/\(T=149\/T=275\/T=4\/T=3):=by
 rcases i with⟨p,a,b,c,rfl⟩|⟨o,i⟩
 .let⟨e,u,_⟩:=h.p.s p a b c;grind
 let⟨c,o⟩:=Option.isSome_iff_exists.1 o;let⟨e,T,u,y⟩:=(h.c c o).ty k i;grind
theorem La(k:Bool)(t:Nat):((Lb k t:Int) == 0)=!k:=by
 grind[Lb]
theorem vn(k:Bool)(t:Nat)(c1:Int)(v:Value)(w:aa):Calls prog 140 #[.agg #[vT k t,.int .i64 c1,v]] w λe w'=>e=.returned (.bool<|!k)/\w.grownBy w' none:=by
 have h:=La k t;show Calls prog 140 #[.agg #[.int .u8 (Lb k t:Nat),.int .i64 c1,v]] w _;generalize Lb k t=y at*;rw[<-h];clear h;go_in;go_wp2_with fail
 go_ret;simp[aj]
