import Derived.Test.YtnjiinbhbjpfkaaGreatDoorTA
set_option maxRecDepth 100000
set_option maxHeartbeats 0
set_option linter.all false
namespace Go.Proofs.YtnjiinbhbjpfkaaGreatDoor
open Go.RowKit Go.Proofs.Tryz
section
variable {e:TypeId}{w w':aa}{xs:List Value}
theorem nD{i g n c:Nat}(J:i<=g)(hn:n<=c)(W:c<=maxLen)(Z:xs.length=n)(H:jF w g e c)(hx:∀j x,xs[j]? = some x->w.cell? (ay g j)=some x):w.ownsRow i e 1 (dA g n c) n xs:=by
 obtain⟨u,y,Y⟩:=H;refine⟨ag,ah ⟨g,c,u,rfl,J,y,hn,W,ag,?_⟩⟩;rw[Nat.mul_one];apply List.ext_getElem?
 intro j;by_cases G:j<n
 .obtain⟨x,o⟩:∃x,xs[j]? = some x:=⟨_,bz ag⟩;have:=hx j x o;rw[o,dO,bf G];grind[World.cell?]
 grind
theorem gZ{i g n c:Nat}(h:w.ownsRow i e 1 (dA g n c) n xs):i<=g/\n<=c/\c<=maxLen/\xs.length=n/\jF w g e c/\∀j x,xs[j]? = some x->w.cell? (ay g j)=some x:=by
 rcases h with⟨J,⟨h,_⟩|⟨g',c',o,Y,h2,H,h4,Z,y,G⟩⟩
 .cases h
 cases Y;rw[Nat.mul_one]at J y G;refine⟨h2,h4,Z,J,⟨o,H,y⟩,λj x u=>?_⟩;have W:j<n:=by
  have:=(cf.1 u).1;omega
 rw[<-G,dO,bf W]at u;grind[World.cell?]
theorem mO{w:aa}(g:Nat):∀{w1:aa},w.grownBy w1 (some g)->∀(e:List Value) (o:Nat),w.grownBy (w1.setCells g o e) (some g)
 | _,h,[],_=>h
 | _,h,_ :: r,o=>mO g (bu h (af rfl) _) r (o+1)
theorem mN(h:w.grownBy w' none)(g:Nat):w.grownBy w' (some g):={ h with block:=λk i _=>h.block k i eR }
theorem ss:∀(xs:List Nat) (x j:Nat),xs[j]? = some x->xs.idxOf x<=j
 | [],x,j,h=>by grind
 | y :: xs,x,j,h=>by
  rw[List.idxOf_cons];by_cases e:y=x
  .grind
  have i:(y == x)=false:=gG e;rw[i]
  cases j with
  | zero=>grind
  | succ j=>
   have:=ss xs x j eR;grind
theorem DS(g c n tb:Nat)(xs:List Nat)(w:aa)(hn:n=xs.length)(a3:n<=1000000000)(W:∀j x,xs[j]? = some x->w.cell? (ay g j)=some (P0 x))(Z:jF w tb 160 7)(hX:∀x,x∈xs->jF w x 160 7)(hm:tb∈xs): dD 183 #[dA g n c,P0 tb] w (aj (xs.idxOf tb:Nat)) λw'=>w'=w:=by
 obtain⟨i0,hi,a6,J,a1⟩:=info_parts Tryz.Bo;have a2:=λ(w:aa)=>run_eql_ptr_same (P:=prog) (w:=w) (tp:=155) (te:=160) (ay tb 0) underlying155 hi;have G:=List.idxOf_lt_length_of_mem hm;change Hid _ at W Z hX G hn;clear hm;delta dD;go_in;go_wp2
 go_loopw [8] (λi wr=>∃j:Nat,i=aj j/\j<=xs.idxOf tb/\wr=w) (λi _=>xs.idxOf tb-(intOf i).toNat)
 case atStart=>grind
 case round=>
  obtain⟨j,rfl,hj,rfl⟩:=hrel;have a4:j<n:=by have:=G.out;have:=hn.out;omega
  obtain⟨x,y⟩:∃x,xs[j]? = some x:=⟨_,bz (gp hn.out)⟩;have cj:=W j x y;by_cases o:j=xs.idxOf tb
  .have u:x=tb:=by
    have:=List.getElem_idxOf (x:=tb) G;rw[cf]at y;obtain⟨h1,h2⟩:=y;subst o;rw[<-h2];exact this
   subst u;change Hid _ at o;go_wp2
   go_ret;exact⟨by simp[o.out],rfl⟩
  have u:x≠tb:=by
   intro e;subst e;have a5:=ss xs x j y;omega
  obtain⟨ct,bt,_⟩:=Z;obtain⟨cx,Y,_⟩:=hX x (eh y);have a0:=run_eql_ptr_other (P:=prog) (w:=wr) (tp:=155) (te:=160) (a:=ay tb 0) (b:=ay x 0) underlying155 hi ag eR bt Y;go_wp2
  go_roundw
  case rel=>exact⟨j+1,iA,ag,trivial⟩
  case measure=>simp[intOf];omega
theorem DW(g c n i J:Nat)(xs:List Value)(w:aa)(a0:w.ownsRow J 155 1 (.slice (some ⟨g,0,none⟩) n c) n xs)(aI:i<n)(h1:∀x,x∈xs->x.oneCell'=true)(aF:n<=1000000000): Calls prog 184 #[.slice (some ⟨g,0,none⟩) n c,.int .i64 (i:Int),.int .i64 ((i:Int)+1)] w λe w'=>e=.returned (.slice (some ⟨g,0,none⟩) (n-1) c)/\w'.ownsRow J 155 1 (.slice (some ⟨g,0,none⟩) (n-1) c) (n-1) (xs.eraseIdx i)/\w.grownBy w' (some g):=by
 obtain⟨hb,hc,hm,hl,hB,y⟩:=gZ a0;clear a0;obtain⟨i0,hi,a6,a4,a9⟩:=info_parts Tryz.oF;have hv:∀w,(zeroValue 155).run prog w=.ok (.pointer none) w:=by intro w;simp[zeroValue,typeInfo,hi,a6]
 have W:∀(ty:TypeId) (w1:aa) (G:Nat),jF w1 g 155 c->(Builtin.clear_ #[136] ty #[.slice (some ⟨g,n-1,none⟩) 1 G]).run prog w1=.ok (.tuple #[]) (w1.setCell ⟨g,n-1,none⟩ (.pointer none)):=by
  intro ty w1 G a2;refine Go.Lib.run_clear_slice (P:=prog) w1 136 155 ty (.pointer none) underlying136 hv rfl rfl g (n-1) 1 G ag ?_ ?_
  .intro j Z;obtain⟨⟨v,h⟩,_⟩:=a2.cell (n-1+j) ag;rw[h];rfl
  intro j Z;exact(a2.cell (n-1+j) ag).2
 have aG:i<=c:=ag;have aA:(0:Int)<=(i:Int)+1:=ag;have a8:i+1<=c:=ag;have aC:(n:Int)<=(c:Int):=ag;have aE:(i:Int)+1<=(n:Int):=ag;have aH:(c:Int)<=9223372036854775807:=by unfold maxLen at hm;omega
 have HB:=bj hB;have HX:=bj y;have H1:=bj h1;have H:=bj hl;have Y:=bj W;have HM:=bj hm;clear hB y h1 hl W hm;by_cases o:i+1=n
 .obtain rfl:n=i+1:=o.symm;have cl:∀(ty:TypeId) (G:Nat),(Builtin.clear_ #[136] ty #[.slice (some ⟨g,i,none⟩) 1 G]).run prog w.drew=.ok (.tuple #[]) (w.drew.setCell ⟨g,i,none⟩ (.pointer none)):=λty G=>Y.out ty w.drew G HB.out;clear o;go_in;go_wp2_with fail
  go_region_law (refine ld rfl (.tmp 22) (.tmp 25) 136 rfl 155 i0 underlying136 hi (some ⟨g,0,none⟩) (if c=i+1 then some ⟨g,0,none⟩ else some ⟨g,i+1,none⟩) i c (c-(i+1)) mB mB ag ?_)
  all_goals
   go_wp2_with fail
   all_goals
    go_ret;refine⟨rfl,nD hb ag (gp HM.out) (by rw[List.length_eraseIdx,bf (kr H.out),H.out];omega) (by obtain⟨cu,k1,k2⟩:=HB.out.set g i (.pointer none);exact⟨cu,k1,ag⟩) (λj x y=>?_),?_⟩
    .have Z:j<i:=by
      have:=(cf.1 y).1;rw[List.length_eraseIdx,bf (kr H.out),H.out]at this;omega
     rw[List.getElem?_eraseIdx_of_lt Z]at y;have:=HX.out j x y;have h2:(World.setCell w ⟨g,i,none⟩ (.pointer none)).cell? ⟨g,j,none⟩=some x:=by
      rw[dH _ _ _ _ AA];exact this
     exact h2
    repeat (first|exact aw _ _|refine bo ?_|refine bu ?_ (af rfl) _)
 obtain⟨m,a7⟩:∃m,n=i+1+m:=⟨n-(i+1),ag⟩;have aD:1<=m:=ag
 subst a7;have aB:¬c=i+1:=ag
 have r1:(xs.drop (i+1)).length=m*1:=by rw[List.length_drop,H.out,Nat.mul_one];omega
 have r2:∀j u,(xs.drop (i+1))[j]? = some u->w.drew.cell? ((⟨g,i+1,none⟩:Addr).add j)=some u:=λj u hu=>by
  rw[List.getElem?_drop]at hu;have:=HX.out (i+1+j) u hu
  cases j with
  | zero=>simpa[Addr.add] using this
  | succ j=>simpa[Addr.add] using this
 have r3:∀u,u∈xs.drop (i+1)->u.oneCell'=true:=λu hu=>H1.out u (List.mem_of_mem_drop hu);have r5:∀j,j<(xs.drop (i+1)).length->(w.drew.cell? ⟨g,0+i*1+j,none⟩).isSome=true/\w.drew.frozen? ⟨g,0+i*1+j,none⟩=false:=λj Z=>by
  rw[r1]at Z;obtain⟨⟨v,h⟩,hf⟩:=HB.out.cell (0+i*1+j) ag;have h':w.drew.cell? ⟨g,0+i*1+j,none⟩=some v:=h;exact⟨jx h',hf⟩
 have HR:=bj (bh r1 (bh r2 (bh r3 r5)));have e1:i+1+m-(i+1)=m:=ag
 have e2:i+1+m-(i+m)=1:=ag;have e3:i+m<=c:=ag;have e6:(i:Int)+1<=(i:Int)+1+(m:Int):=ag;have BS:jF (w.drew.setCells g i (xs.drop (i+1))) g 155 c:=jF.wO g _ _ _ (show jF w.drew g 155 c from HB.out);have cl:=λty G=>by
  have:=Y.out ty _ G BS;rw[show i+1+m-1=i+m by omega]at this;exact this
 have a5:=bj BS;clear r1 r2 r3 r5 o BS;go_in;go_wp2_with fail
 go_region_law (refine step_append_room rfl (.tmp 22) (.tmp 25) 136 rfl 155 i0 1 underlying136 hi a4 g 0 i c mB ⟨g,i+1,none⟩ m (c-(i+1)) (xs.drop (i+1)) mB HR.out.1 HR.out.2.1 HR.out.2.2.1 ag HR.out.2.2.2 ?_)
 all_goals
  go_wp2_with fail
  go_ret;rw[show i+1+m-1=i+m by omega];have a1:∀j,j<(xs.drop (i+1)).length->(w.drew.cell? ⟨g,i+j,none⟩).isSome=true:=λj Z=>by
   have:=(HR.out.2.2.2 j Z).1;simpa using this
  refine⟨rfl,nD hb ag HM.out (by rw[List.length_eraseIdx,bf (kr H.out),H.out];omega) (by obtain⟨cu,k1,k2⟩:=a5.out.set g (i+m) (.pointer none);exact⟨cu,k1,k2⟩) (λj x y=>?_),?_⟩
  .have Z:j<i+m:=by
    have:=(cf.1 y).1;rw[List.length_eraseIdx,bf (kr H.out),H.out]at this;omega
   have h2:((w.drew.setCells g i (xs.drop (i+1))).setCell ⟨g,i+m,none⟩ (.pointer none)).cell? ⟨g,j,none⟩=some x:=by
    rw[dH _ _ _ _ AA];by_cases a3:j<i
    .rw[World.cell?_setCells_out g _ _ _ _ (λ_ _=>af a3)];rw[List.getElem?_eraseIdx_of_lt a3]at y;exact HX.out j x y
    obtain⟨t,rfl⟩:∃t,j=i+t:=⟨j-i,ag⟩;rw[List.getElem?_eraseIdx_of_ge ag]at y;have hd:(xs.drop (i+1))[t]? = some x:=by rw[List.getElem?_drop,<-y];congr 1;omega
    have ht:=(cf.1 hd).1;rw[World.cell?_setCells_in g _ _ _ a1 t ht];obtain⟨_,hv⟩:=cf.1 hd;rw[hv]
   exact h2
  repeat (first|exact aw _ _|refine bo ?_|refine bu ?_ (af rfl) _|refine mO g ?_ _ _)
theorem jq{P:Program}{ops:Array Oper}{rest:List Oper}{o:Oper}{a:Act}{Q:Exit->Act->aa->Prop}(aA:o.guard=none)(s x:Operand)(t:TypeId)(ho:o.op=.call { callee:=.builtin .append,args:=#[s,x],argTypes:=#[t,t] })(e:TypeId)(i:TypeInfo)(z:Value)(size bytes:Nat)(ht:P.underlying t=some (.slice e))(hi:P.info? e=some i)(hz:i.zero=some z)(J:i.size=size)(a2:i.bytes=bytes)(a3:z.cells.size=size)(a5:0<size)(a1:Nat)(ao:Option Addr)(n cap:Nat)(xs:List Value)(hs:a.eval s=.slice ao n cap)(a0:w.ownsRow a1 e size (.slice ao n cap) n xs)(ad:Addr)(m c:Nat)(y:List Value)(hx:a.eval x=.slice (some ad) m c)(hl:y.length=m*size)(Y:∀j u,y[j]? = some u->w.cell? (ad.add j)=some u)(h1:∀u∈y,u.oneCell'=true)(a4:n+m<=maxLen)(G:(n+m)*bytes<=140737488355328)(Z:cap<n+m)(h:∀W w',w'.ownsRow w.heap.size e size W (n+m) (xs++y)->w.grownBy w' none->wpList P ops Q rest (a.put o.dst W) w'):wpList P ops Q (o :: rest) a w:=by
 refine wpList_plain aA λ_ hK=>?_;have a9:∃W w',(Builtin.append_ #[t,t] o.type #[.slice ao n cap,.slice (some ad) m c]).run P w=.ok W w'/\w'.ownsRow w.heap.size e size W (n+m) (xs++y)/\w.grownBy w' none:=by
  rcases a0 with⟨a7,⟨hv,h0⟩|⟨g,c',aB,hv,_,h2,h3,h4,h5,h6⟩⟩
  .injection hv with e1 e2 e3;subst e1 e2 e3;obtain rfl:xs=[]:=List.eq_nil_of_length_eq_zero ag;obtain⟨W,w',H,r1,r2,_⟩:=run_append_own (P:=P) w w.heap.size t o.type e i z size bytes ht hi hz J a2 a3 a5 (.slice none 0 0) 0 [] (eg w _ e size) ad m c y hl Y h1 a4 G (bq _);exact⟨W,w',H,r1,r2⟩
  injection hv with e1 e2 e3;subst e1 e3;have a8:∀j u,xs[j]? = some u->w.cell? (((ay g 0):Addr).add j)=some u:=λj u hu=>by
   have hj:j<n*size:=by
    have:=(cf.1 hu).1;omega
   rw[<-h6,dO,bf hj]at hu;have a6:dS w g j=some u:=by
    simp only[World.cell?,h2];simpa using hu
   grind[Addr.add]
  obtain⟨W,w',H,r1,r2⟩:=run_append_arg_grows (P:=P) w t o.type e i z size bytes ht hi hz J a2 a3 a5 (ay g 0) n cap xs a7 a8 ad m c y hl Y Z a4 G;exact⟨W,w',H,r1,r2⟩
 obtain⟨W,w',hr,h2,h3⟩:=a9;unfold Oper.wp execOp;simp only[ho,resolve,invoke,builtin,Sem.run_bind,Sem.run_pure,Result.andThen_ok,List.map_toArray,List.map_cons,List.map_nil,hs,hx,hr];exact hK _ _ (h W w' h2 h3)
def gV{b y size n:Nat}{v:Value}(h:w.ownsRow b e size v n xs)(G:y<=b):w.ownsRow y e size v n xs:=by
 rcases h with⟨u,o|⟨g,c,i,o,J,H⟩⟩
 .exact⟨u,af o⟩
 exact⟨u,ah ⟨g,c,i,o,dU G J,H⟩⟩
def OD(w w':aa)(v:Value)(n base:Nat)(xs:List Value)(y:Value)(e:Ending):Prop:=
 ∃g' c',e=.returned (.slice (some ⟨g',0,none⟩) (n+1) c')/\w'.ownsRow base 155 1 (.slice (some ⟨g',0,none⟩) (n+1) c') (n+1) (xs++[y])/\w.grownBy w' v.ownBlock/\(v.ownBlock=some g'\/w.heap.size<=g')
theorem D4(n i x:Nat)(y:Value)(xs:List Value)(hy:y.oneCell'=true)(w:aa)(ad:Option Addr)(c:Nat)(o:w.ownsRow i 155 1 (.slice ad n c) n xs)(hx:w.cell? (ay x 0)=some y)(hb:i<=w.heap.size)(aB:n<=1000000000): Calls prog 203 #[.slice ad n c,aj n,dA x 1 1] w λe w'=>OD w w' (.slice ad n c) n i xs y e:=by
 obtain⟨i0,hi,a7,a4,a0⟩:=info_parts Tryz.oF;have HO:=bj o;have aC:n<=c:=by
  rcases o.2 with⟨h,h0⟩|⟨g',c',Z,J,_,_,h4,_⟩
  .injection h;omega
  injection J;omega
 have aD:(c:Int)<=9223372036854775807:=by
  rcases o.2 with⟨h,h0⟩|⟨g',c',Z,J,_,_,h4,h5,_⟩
  .injection h;omega
  injection J;unfold maxLen at h5;omega
 have G:n<c->∃g,ad=some (ay g 0):=λa8=>by
  rcases o.2 with⟨h,h0⟩|⟨g',c',Z,J,_⟩
  .injection h;omega
  injection J with J;exact⟨g',J⟩
 by_cases a8:n<c
 .obtain⟨g,rfl⟩:=G a8;go_in;go_wp2_with (at_builtin;refine nO rfl (.tmp 23) (.tmp 24) 136 rfl i 155 i0 _ 1 8 underlying136 hi a7 a4 a0 rfl ek _ _ _ _ rfl HO (ay x 0) 1 1 [y] rfl rfl ?c1 ?c2 ?c3 ?c4 ?c5 ?c6 ?_)
  try case c1=>intro j u H;match j,H with|0,H=>(simp at H;subst H;simpa[Addr.add] using hx)
  try case c2=>intro u Y;simp at Y;subst Y;exact hy
  try case c3=>unfold maxLen;omega
  try case c4=>omega
  try case c5=>exact hb
  try case c6=>omega
  intro w' W hg;go_wp2
  go_ret;exact⟨g,c,rfl,W,hg,af rfl⟩
 have a6:(ad=none/\n=0/\c=0)\/∃g,ad=some (ay g 0)/\n=c:=by
  rcases HO.2 with⟨h,h0⟩|⟨g',c',Z,J,_,_,h4,_⟩
  .injection h with a1 a2 a3;exact af ⟨a1,a2,a3⟩
  injection J with a1 a2 a3;exact ah ⟨g',a1,ag⟩
 rcases a6 with⟨rfl,rfl,rfl⟩|⟨g,rfl,rfl⟩
 .go_in;go_wp2_with (at_builtin;refine jq rfl (.tmp 23) (.tmp 24) 136 rfl 155 i0 _ 1 8 underlying136 hi a7 a4 a0 rfl ek i _ _ _ _ rfl HO (ay x 0) 1 1 [y] rfl rfl ?c1 ?c2 ?c3 ?c4 ?c5 ?_)
  try case c1=>intro j u H;match j,H with|0,H=>(simp at H;subst H;simpa[Addr.add] using hx)
  try case c2=>intro u Y;simp at Y;subst Y;exact hy
  try case c3=>unfold maxLen;omega
  try case c4=>omega
  try case c5=>omega
  intro v' w' W hg;obtain⟨g',c',rfl⟩:=ee W ag;have a5:=(gZ W).1;go_wp2
  go_ret;exact⟨g',c',rfl,gV W hb,hg,ah a5⟩
 go_in
 go_wp2_with (at_builtin;refine jq rfl (.tmp 23) (.tmp 24) 136 rfl 155 i0 (.pointer none) 1 8 underlying136 hi a7 a4 a0 rfl ek i (some (ay g 0)) n n xs rfl HO (ay x 0) 1 1 [y] rfl rfl ?c1 ?c2 pY ?c4 ag ?_)
 try case c1=>intro j u H;match j,H with|0,H=>(simp at H;subst H;simpa[Addr.add] using hx)
 try case c2=>intro u Y;simp at Y;subst Y;exact hy
 try case c4=>omega
 intro v' w' W hg;obtain⟨g',c',rfl⟩:=ee W ag;have a5:=(gZ W).1;go_wp2
 go_ret;exact⟨g',c',rfl,gV W hb,mN hg g,ah a5⟩
def vz(k:Bool):Value:=.int .u8 (if k=true then 1 else 0)
def qo(k:Bool)(vb ln:Nat):Value:=if k=true then .slice (some ⟨vb,0,none⟩) ln ln else .slice none 0 0
def jI(kd:Nat->Bool)(vb:Nat->Nat)(M:Nat->List B.V):Nat->Value:=λj=>
 if j % 3=0 then vz (kd (j / 3+1)) else if j % 3=1 then .int .i64 0 else qo (kd (j / 3+1)) (vb (j / 3+1)) (M (j / 3+1)).length
abbrev lM(M:Nat->List B.V)(p:Nat):Nat->B.V:=λi=>(M p).getD i (0,0)
structure oW(w:aa) (pb n:Nat) (on:Nat->Bool) (f:Nat->Nat) (M:Nat->List B.V):Prop where
 p:Full w pb 228 (n*3) (n*3) (jI on f M)
 s:∀p,1<=p->p<=n->on p=true->Full w (f p) 149 ((M p).length*2) ((M p).length*2) (eQ (lM M p))
 i:∀p q,1<=p->p<=n->1<=q->q<=n->on p=true->on q=true->f p=f q->p=q
 l:∀p,on p=true->(M p).length<=8
theorem oW.block{w w':aa}{pb n:Nat}{on:Nat->Bool}{f:Nat->Nat}{M:Nat->List B.V}(h:oW w pb n on f M)(o:w'.heap[pb]? = w.heap[pb]?)(e:∀p,1<=p->p<=n->on p=true->w'.heap[f p]? = w.heap[f p]?):oW w' pb n on f M:=
 ⟨h.p.block o,λp a b c=>(h.s p a b c).block (e p a b c),h.i,h.l⟩
def oi(st:List Nat):List Value:=st.map (λp=>.int .i64 ((p-1:Nat):Int))
def wN(e:List Nat):(oi e).length=e.length:=by simp[oi]
def AM(a b:List Nat):oi (a++b)=oi a++oi b:=by simp[oi]
structure mV(w:aa) (cb rd sb n:Nat) (ad:Option Addr) (cap:Nat) (c:B.Cy):Prop where
 b:w.heap[cb]? = some (.cells #[P0 sb,.slice (some ⟨rd,0,none⟩) n n,.slice ad c.st.length cap,.int .i64 c.nx] 275 (0,0))
 r:Full w rd 4 n n (λj=>.bool (c.m (j+1)))
 q:gd w 3 (.slice ad c.st.length cap) (oi c.st)
def fi(ad:Option Addr):Option Nat:=ad.map (·.block)
theorem dF(ad:Option Addr)(n c:Nat):(Value.slice ad n c).ownBlock=fi ad:=by cases ad<;>rfl
def oT(cb rd:Nat)(ad:Option Addr)(k:Nat):Prop:=k=cb\/k=rd\/fi ad=some k
theorem mV.block{w w':aa}{cb i sb n:Nat}{ad:Option Addr}{cap:Nat}{c:B.Cy}(h:mV w cb i sb n ad cap c)(o:∀k,oT cb i ad k->w'.heap[k]? = w.heap[k]?):mV w' cb i sb n ad cap c:=
 ⟨(o cb (af rfl)).trans h.b,h.r.block (o i (ah (af rfl))),h.q.block (λk e=>o k (ah (ah (by rw[<-dF ad c.st.length cap];exact e))))⟩
theorem mV.lt{w:aa}{cb i sb n:Nat}{ad:Option Addr}{cap:Nat}{c:B.Cy}(h:mV w cb i sb n ad cap c)(k:Nat)(e:oT cb i ad k):k<w.heap.size:=by
 rcases e with rfl|rfl|e
 .exact ch h.b
 .exact h.r.lt
 exact h.q.lt k (eV dF e)
theorem mV.ty{w:aa}{cb u sb n:Nat}{ad:Option Addr}{cap:Nat}{c:B.Cy}(h:mV w cb u sb n ad cap c)(k:Nat)(i:oT cb u ad k):∃e T,w.heap[k]? = some (.cells e T (0,0))/\(T=275\/T=4\/T=3):=by
 rcases i with rfl|rfl|i
 .exact⟨_,_,h.b,af rfl⟩
 .obtain⟨e,o,_⟩:=h.r;exact⟨_,_,o,ah (af rfl)⟩
 obtain⟨e,o⟩:=h.q.ty k (eV dF i);exact⟨_,_,o,ah (ah rfl)⟩
def mV.kept{cb i sb n:Nat}{ad:Option Addr}{cap:Nat}{c:B.Cy}(h:mV w cb i sb n ad cap c)(u:w.grownBy w' none):mV w' cb i sb n ad cap c:=
 h.block (λk o=>u.block k (h.lt k o) im)
structure Vs where
 f:Nat->Nat
 cb:Nat
 rd:Nat
 ad:Option Addr
 cap:Nat
def BJ:Vs:=⟨λ_=>0,0,0,none,0⟩
def zE(kd:B.Kd)(vb:Vs):Value:=if kd.cy.isSome=true then P0 vb.cb else .pointer none
structure kD(w:aa) (sb pb eb n:Nat) (kd:B.Kd) (vb:Vs) (M:Nat->List B.V):Prop where
 b:w.heap[sb]? = some (.cells #[.slice (some ⟨pb,0,none⟩) n n,.func (.func 59) #[P0 eb] #[],zE kd vb,.int .i64 (wrap64 (kd.un:Int)),.int .i64 (wrap64 (kd.fo:Int)),.int .i64 (wrap64 (kd.cc:Int))] 207 (0,0))
 p:oW w pb n kd.on vb.f M
 c:∀c,kd.cy=some c->mV w vb.cb vb.rd sb n vb.ad vb.cap c
def Own(n:Nat)(kd:B.Kd)(vb:Vs)(k:Nat):Prop:=(∃p,1<=p/\p<=n/\kd.on p=true/\vb.f p=k)\/(kd.cy.isSome=true/\oT vb.cb vb.rd vb.ad k)
theorem kD.block{w w':aa}{sb pb eb n:Nat}{kd:B.Kd}{vb:Vs}{M:Nat->List B.V}(h:kD w sb pb eb n kd vb M)(u:w'.heap[sb]? = w.heap[sb]?)(y:w'.heap[pb]? = w.heap[pb]?)(i:∀k,Own n kd vb k->w'.heap[k]? = w.heap[k]?):kD w' sb pb eb n kd vb M:=
 ⟨u.trans h.b,h.p.block y (λp a b c=>i _ (af ⟨p,a,b,c,rfl⟩)),λc e=>(h.c c e).block (λk o=>i k (ah ⟨jx e,o⟩))⟩
def eE{w:aa}{a b:Nat}{x y:Array Value}{S T:TypeId}{f g:Nat×Nat}(i:w.heap[a]? = some (.cells x S f))(e:w.heap[b]? = some (.cells y T g))(h:S≠T):a≠b:=by
 rintro rfl;rw[i]at e;injection e with e;injection e with _ e _;exact h e
theorem sV(sb:Nat)(x:Int)(w:aa):dD 202 #[P0 sb,vA (0,x)] w (.agg #[dy 0,aj 0,.slice none 0 0]) λw'=>w.grownBy w' none:=by
 have hi:=oE (0,x);simp only[ne_eq,not_true,decide_false]at hi;have H:=bj hi;delta dD;go_in;go_wp2_with fail
 refine du (H _) λw1 o=>?_;have i:w1.heap[w.heap.size+1]? = some (.cells #[dy 0,aj 0,.slice none 0 0] 228 (0,0)):=by
  refine(o.block _ eB im).trans ?_;have:=bl (w.alloc (.cells #[aj ((0:Nat):Int),aj x] 149)) (.cells #[dy 0,aj 0,.slice none 0 0] 228);simpa using this
 have u:=bj (ar (ax (ak w _ none) _) o);have G:dS w1 (w.heap.size+1) 0=some (dy 0):=fy i
 have J:dS w1 (w.heap.size+1) 1=some (aj 0):=fy i;have y:dS w1 (w.heap.size+1) 2=some (.slice none 0 0):=fy i;have t0:w1.frozen? (ay (w.heap.size+1) 0)=false:=qE i;have Z:w1.frozen? (ay (w.heap.size+1) 1)=false:=qE i;have Y:w1.frozen? (ay (w.heap.size+1) 2)=false:=qE i;clear o i;go_wp2
 refine dg (v:=.agg #[dy 0,aj 0,.slice none 0 0]) (by simp[results,results202,go_sem,G,J,y]) rfl ⟨rfl,?_⟩;repeat (first|exact u|refine bo ?_|refine ax ?_ _|refine bu ?_ (ah eB) _)
end
namespace M
variable {f l op p r:Nat}{s:ByteArray}
def bt(s:ByteArray)(p:Nat):Nat:=(s.data[p]?.getD 0).toNat
def tk(s:ByteArray)(p lo hi:Nat):Bool:=decide (p<s.size/\lo<=bt s p/\bt s p<=hi)
def kd:List (List Nat):=[[114,107,107],[114,114,45],[114,114,114],[114,114,114],[114,114,114],[114,114,114],[114,114,114],[45,116,116],[114,116,116],[114,115,45],[114,114,114],[114,114,114],[114,102,114],[114,114,114],[114,45,45],[114,114,114],[45,45,45],[114,45,45],[114,114,45],[114,45,45],[114,45,45],[114,114,45],[114,45,45]]
def k0(op:Nat):Nat:=(kd.getD op []).getD 0 0
def k1(op:Nat):Nat:=(kd.getD op []).getD 1 0
def k2(op:Nat):Nat:=(kd.getD op []).getD 2 0
def ko(r f k:Nat):Nat:=if k=114 then r-1 else if k=102 then f-1 else if k=115 then 8 else if k=107 then 255 else 0
def wI(s:ByteArray)(p l:Nat):Nat×Bool:=
 if s.size<p+2 then(s.size,false) else if l<256*bt s p+bt s (p+1) then(p,false) else(p+2,true)
def tJ(s:ByteArray)(p op r f l:Nat):Nat×Bool:=
 if tk s p 0 (ko r f (k0 op))=true then
  if k1 op=116 then wI s (p+1) l
  else if tk s (p+1) 0 (ko r f (k1 op))=true then
   if tk s (p+2) 0 (ko r f (k2 op))=true then(p+3,true) else(p+2,false)
  else(p+1,false)
 else(p,false)
def ins(s:ByteArray)(p r f l:Nat):Nat×Bool:=
 if tk s p 0 22=true then tJ s (p+1) (bt s p) r f l else(p,false)
def code(s:ByteArray)(r f l:Nat):Nat->Nat->Nat×Bool
 | p,0=>(p,true)
 | p,n+1=>if(ins s p r f l).2=true then code s r f l (ins s p r f l).1 n else((ins s p r f l).1,false)
def fn(s:ByteArray)(p f:Nat):Nat×Bool:=
 if tk s p 2 8=true then
  if tk s (p+1) 1 200=true then code s (bt s p) f (bt s (p+1)) (p+2) (bt s (p+1)) else(p+1,false)
 else(p,false)
def fns(s:ByteArray)(f:Nat):Nat->Nat->Nat×Bool
 | p,0=>(p,true)
 | p,n+1=>if(fn s p f).2=true then fns s f (fn s p f).1 n else((fn s p f).1,false)
def m9(s:ByteArray):Nat×Bool:=
 if tk s 0 1 8=true then((fns s (bt s 0) 1 (bt s 0)).1,(fns s (bt s 0) 1 (bt s 0)).2 && decide ((fns s (bt s 0) 1 (bt s 0)).1=s.size)) else(0,false)
def ops(s:ByteArray)(r f l:Nat):List Nat->Nat->Nat×Bool
 | [],q=>(q,true)
 | k :: ks,q=>if k=116 then wI s q l else if tk s q 0 (ko r f k)=true then ops s r f l ks (q+1) else(q,false)
def uG:∀e,e<23->kd.getD e []=[k0 e,k1 e,k2 e]/\k0 e≠116/\(k1 e≠116->k2 e≠116):=by decide
theorem A6(s:ByteArray)(p op r f l:Nat)(h:op<23):ops s r f l (kd.getD op []) p=tJ s p op r f l:=by
 obtain⟨u,o,i⟩:=uG op h;rw[u];unfold tJ;simp only[ops,if_neg o];grind
def Fy(s:ByteArray)(p:Nat):bt s p<256:=by
 unfold bt;exact UInt8.toNat_lt _
def nu(s:ByteArray)(p:Nat)(h:p<s.size):bt s p=(s[p]'h).toNat:=by
 unfold bt;rw[Array.getElem?_eq_getElem h];rfl
theorem gU{e hi:Nat}(h:tk s p e hi=true):p<s.size/\e<=bt s p/\bt s p<=hi:=by
 grind[tk]
theorem I5(h:p<=s.size):p<=(wI s p l).1/\(wI s p l).1<=s.size:=by
 unfold wI;grind
theorem Ek(h:p<=s.size):p<=(tJ s p op r f l).1/\(tJ s p op r f l).1<=s.size:=by
 unfold tJ;split
 .rename_i o;have:=gU o;split
  .grind[I5]
  split
  .rename_i i;have:=gU i;split
   .rename_i e;have:=gU e;omega
   omega
  omega
 omega
theorem An(h:p<=s.size):p<=(ins s p r f l).1/\(ins s p r f l).1<=s.size:=by
 unfold ins;split
 .rename_i e;have:=gU e;grind[Ek,bt]
 omega
theorem tI(h:(tJ s p op r f l).2=true):(tJ s p op r f l).1=p+3:=by
 unfold tJ at *;by_cases o:tk s p 0 (ko r f (k0 op))=true
 .rw[if_pos o]at h ⊢;by_cases u:k1 op=116
  .rw[if_pos u]at h ⊢;unfold wI at *;grind
  grind
 grind
theorem xi(h:(ins s p r f l).2=true):(ins s p r f l).1=p+4:=by
 unfold ins at *;split at h
 .rw[if_pos ag,tI h]
 grind
theorem Hs(n:Nat):∀p,p<=s.size->p<=(code s r f l p n).1/\(code s r f l p n).1<=s.size:=by
 induction n with
 | zero=>grind[code]
 | succ n e=>
  grind[An,code,M.code.eq_def]
theorem Mc(h:p<=s.size):p<=(fn s p f).1/\(fn s p f).1<=s.size:=by
 unfold fn;split
 .rename_i i;have:=gU i;split
  .rename_i e;have:=gU e;grind[Hs,bt]
  omega
 omega
def fR(S:ByteArray):List Nat:=S.data.toList.map UInt8.toNat
def KS(op:Nat):ByteArray:=⟨((kd.getD op []).map UInt8.ofNat).toArray⟩
def oh:∀e,e<23->fR (KS e)=kd.getD e []/\(KS e).size=3:=by decide
def mj(S:ByteArray)(k:Nat)(h:k<S.size):(fR S).drop k=S[k].toNat :: (fR S).drop (k+1):=by
 rw[List.drop_eq_getElem_cons (by simpa[fR] using h)];simp[fR];rfl
def sM(S:ByteArray):(fR S).drop S.size=[]:=by
 simp[List.drop_of_length_le,fR]
theorem oG(s:ByteArray)(p q i:Nat)(h:q<=s.size)(hi:p+i<q):bt (s.extract p q) i=bt s (p+i):=by
 unfold bt;have:(s.extract p q).data=s.data.extract p q:=by simp
 grind
theorem Fm(n:Nat):∀p,(code s r f l p n).2=true->(code s r f l p n).1=p+4*n:=by
 induction n with
 | zero=>intro p _;rfl
 | succ n i=>
  intro p h;unfold code at h ⊢;by_cases e:(ins s p r f l).2=true
  .rw[if_pos e]at h ⊢;grind[xi]
  grind
theorem uN(h:(fn s p f).2=true):(fn s p f).1=p+2+4*bt s (p+1)/\2<=bt s p/\bt s p<=8/\1<=bt s (p+1)/\bt s (p+1)<=200:=by
 unfold fn at *;by_cases i:tk s p 2 8=true
 .rw[if_pos i]at h ⊢;by_cases e:tk s (p+1) 1 200=true
  .rw[if_pos e]at h ⊢;have:=gU i;have:=gU e;grind[Fm]
  grind
 grind
def pos(s:ByteArray):Nat->Nat
 | 0=>1
 | k+1=>pos s k+2+4*bt s (pos s k+1)
end M
section
def iK(s:ByteArray)(p f r l:Int):Obj:=.cells #[.string s,.int .i64 p,.int .i64 f,.int .i64 r,.int .i64 l] 128 (0,0)
def jZ(s:ByteArray)(p:Int)(bad:Bool):Obj:=.cells #[.string s,.int .i64 p,.bool bad] 124 (0,0)
section
variable {w:aa}{b:Nat}{s:ByteArray}{p f r l:Int}
def fA(h:w.heap[b]? = some (iK s p f r l)):w.cell? (ay b 0)=some (.string s)/\w.cell? (ay b 1)=some (aj p)/\w.cell? (ay b 2)=some (aj f)/\w.cell? (ay b 3)=some (aj r)/\w.cell? (ay b 4)=some (aj l):=by
 simp[World.cell?,h,iK]
def iZ(h:w.heap[b]? = some (iK s p f r l)):w.frozen? (ay b 1)=false/\w.frozen? (ay b 2)=false/\w.frozen? (ay b 3)=false/\w.frozen? (ay b 4)=false:=by
 simp[World.frozen?,h,iK]
def um(h:w.heap[b]? = some (iK s p f r l))(v:Int):(w.setCell (ay b 1) (aj v)).heap[b]? = some (iK s v f r l):=by
 simp[World.setCell,dh,h,iK]
def Eb(h:w.heap[b]? = some (iK s p f r l))(v:Int):(w.setCell (ay b 2) (aj v)).heap[b]? = some (iK s p v r l):=by
 simp[World.setCell,dh,h,iK]
theorem uk(h:w.heap[b]? = some (iK s p f r l))(v:Int):(w.setCell (ay b 3) (aj v)).heap[b]? = some (iK s p f v l):=by
 simp[World.setCell,dh,h,iK]
theorem yv(h:w.heap[b]? = some (iK s p f r l))(v:Int):(w.setCell (ay b 4) (aj v)).heap[b]? = some (iK s p f r v):=by
 simp[World.setCell,dh,h,iK]
end
section
variable {w:aa}{b:Nat}{s:ByteArray}{p:Int}{bad:Bool}
def ij(h:w.heap[b]? = some (jZ s p bad)):w.cell? (ay b 0)=some (.string s)/\w.cell? (ay b 1)=some (aj p)/\w.cell? (ay b 2)=some (.bool bad):=by
 simp[World.cell?,h,jZ]
def lh(h:w.heap[b]? = some (jZ s p bad)):w.frozen? (ay b 1)=false/\w.frozen? (ay b 2)=false:=by
 simp[World.frozen?,h,jZ]
def Ea(h:w.heap[b]? = some (jZ s p bad))(v:Int):(w.setCell (ay b 1) (aj v)).heap[b]? = some (jZ s v bad):=by
 simp[World.setCell,dh,h,jZ]
def yt(h:w.heap[b]? = some (jZ s p bad))(v:Bool):(w.setCell (ay b 2) (.bool v)).heap[b]? = some (jZ s p v):=by
 simp[World.setCell,dh,h,jZ]
end
end
section
theorem DF(b:Nat)(s:ByteArray)(f r l i hi:Int)(w:aa)(h:w.heap[b]? = some (iK s s.size f r l)): dD 81 #[.pointer (some (ay b 0)),aj i,aj hi] w (.tuple #[aj 0,.bool false]) λw'=>∃n,w'=w.drewN n:=by
 obtain⟨c0,c1,_,_,_⟩:=fA h;delta dD;go_in;go_wp2
 go_quiet (fail)
 go_wp2
 go_ret2
 exact⟨rfl,_,rfl⟩
theorem DE(b:Nat)(s:ByteArray)(p:Nat)(f r l i hi x:Int)(w:aa)(h:w.heap[b]? = some (iK s p f r l))(y:s.size<=maxLen)(W:p<s.size)(hx:Hid (x=(s[p].toNat:Int)))(u:i<=x)(H:x<=hi): dD 81 #[.pointer (some (ay b 0)),aj i,aj hi] w (.tuple #[aj x,.bool true]) λw'=>∃n,w'=(w.drewN n).setCell (ay b 1) (aj (p+1)):=by
 unfold maxLen at y;obtain⟨c0,c1,_,_,_⟩:=fA h;obtain⟨J,_⟩:=iZ h;have G:((p:Int) == (s.size:Int))=false:=fH
 have o:s[p].toNat<256:=fg _;rw[hx.out]at u H ⊢;delta dD;go_in;go_wp2
 go_quiet (fail)
 go_wp2
 go_quiet (fail)
 go_wp2
 go_ret2
 exact⟨rfl,_,rfl⟩
theorem Gb(b:Nat)(s:ByteArray)(p:Nat)(f r l i hi x:Int)(w:aa)(h:w.heap[b]? = some (iK s p f r l))(H:p<s.size)(hx:Hid (x=(s[p].toNat:Int)))(u:x<i\/hi<x): dD 81 #[.pointer (some (ay b 0)),aj i,aj hi] w (.tuple #[aj 0,.bool false]) λw'=>∃n,w'=w.drewN n:=by
 obtain⟨c0,c1,_,_,_⟩:=fA h;have y:((p:Int) == (s.size:Int))=false:=fH
 have o:s[p].toNat<256:=fg _;rw[hx.out]at u;by_cases G:(s[p].toNat:Int)<i
 all_goals
  delta dD;go_in;go_wp2
  go_quiet (fail)
  go_wp2
  go_quiet (fail)
  go_wp2
  go_ret2
  exact⟨rfl,_,rfl⟩
def kZ(b:Nat)(s:ByteArray)(p L H:Nat)(f r l i hi:Int)(w:aa)(h:w.heap[b]? = some (iK s p f r l))(u:s.size<=maxLen)(y:i=L)(G:hi=H)(ht:M.tk s p L H=true): dD 81 #[.pointer (some (ay b 0)),aj i,aj hi] w (.tuple #[aj (M.bt s p),.bool true]) λw'=>w'.heap[b]? = some (iK s ((p+1:Nat):Int) f r l)/\w.grownBy w' (some b):=by
 obtain⟨o,W,J⟩:=M.gU ht;have e:=M.nu s p o;refine du (DE b s p f r l i hi (M.bt s p) w h u o (by show _=_;rw[e]) ag ag) ?_;rintro w' ⟨n,rfl⟩;exact⟨rfl,um (w:=w.drewN n) h _,bu (df (aw _ _) _) (af rfl) _⟩
def pa(b:Nat)(s:ByteArray)(p L H:Nat)(f r l i hi:Int)(w:aa)(h:w.heap[b]? = some (iK s p f r l))(J:p<=s.size)(u:i=L)(y:hi=H)(ht:M.tk s p L H=false): dD 81 #[.pointer (some (ay b 0)),aj i,aj hi] w (.tuple #[aj 0,.bool false]) λw'=>w'.heap[b]? = some (iK s p f r l)/\w.grownBy w' (some b):=by
 by_cases o:p<s.size
 .have e:=M.nu s p o;have G:M.bt s p<L\/H<M.bt s p:=by simp[M.tk]at ht;omega
  refine du (Gb b s p f r l i hi (M.bt s p) w h o (by show _=_;rw[e]) ag) ?_;rintro w' ⟨n,rfl⟩;exact⟨rfl,h,df (aw _ _) _⟩
 obtain rfl:p=s.size:=by omega
 refine du (DF b s f r l i hi w h) ?_;rintro w' ⟨n,rfl⟩;exact⟨rfl,h,df (aw _ _) _⟩
end
namespace F
structure Fb where
 b:Nat->Nat
 k:Nat->Nat
def JM(k:Bool)(t:Nat):Nat:=if k=true then(if t=0 then 1 else 2) else 0
def vz(k:Bool)(t:Nat):Value:=.int .u8 (JM k t)
def E9(k:Bool)(t:Nat):Nat:=if k=true then t-1 else 0
def jI(kd:Nat->Bool)(vb:Fb)(M:Nat->List B.V):Nat->Value:=λj=>
 if j % 3=0 then vz (kd (j / 3+1)) (vb.k (j / 3+1)) else if j % 3=1 then .int .i64 (E9 (kd (j / 3+1)) (vb.k (j / 3+1)):Nat) else qo (kd (j / 3+1)) (vb.b (j / 3+1)) (M (j / 3+1)).length
theorem A3(kd:Nat->Bool)(vb:Fb)(M:Nat->List B.V)(k:Nat):jI kd vb M (k*3)=vz (kd (k+1)) (vb.k (k+1)):=by
 unfold jI;rw[mm,show k*3 / 3=k by omega]
theorem A2(kd:Nat->Bool)(vb:Fb)(M:Nat->List B.V)(k:Nat):jI kd vb M (k*3+1)=aj (E9 (kd (k+1)) (vb.k (k+1)):Nat):=by
 unfold jI;rw[eD,mm,show(k*3+1) / 3=k by omega]
theorem uu(kd:Nat->Bool)(vb:Fb)(M:Nat->List B.V)(k:Nat):jI kd vb M (k*3+2)=qo (kd (k+1)) (vb.b (k+1)) (M (k+1)).length:=by
 unfold jI;rw[eD,eD,show(k*3+2) / 3=k by omega]
structure oW(w:aa) (pb n:Nat) (on:Nat->Bool) (f:Fb) (M:Nat->List B.V):Prop where
 p:Full w pb 228 (n*3) (n*3) (jI on f M)
 s:∀p,1<=p->p<=n->on p=true->Full w (f.b p) 149 ((M p).length*2) ((M p).length*2) (eQ (lM M p))
 i:∀p q,1<=p->p<=n->1<=q->q<=n->on p=true->on q=true->f.b p=f.b q->p=q
 l:∀p,on p=true->(M p).length<=8
 k:∀p,on p=true->f.k p≠0->(M p).length=1
theorem oW.block{w w':aa}{pb n:Nat}{on:Nat->Bool}{f:Fb}{M:Nat->List B.V}(h:oW w pb n on f M)(o:w'.heap[pb]? = w.heap[pb]?)(e:∀p,1<=p->p<=n->on p=true->w'.heap[f.b p]? = w.heap[f.b p]?):oW w' pb n on f M:=
 ⟨h.p.block o,λp a b c=>(h.s p a b c).block (e p a b c),h.i,h.l,h.k⟩
def oW.kept{w w':aa}{pb n:Nat}{on:Nat->Bool}{f:Fb}{M:Nat->List B.V}(h:oW w pb n on f M)(i:w.grownBy w' none):oW w' pb n on f M:=
 h.block (i.block pb h.p.lt im) (λp a b c=>i.block _ (h.s p a b c).lt im)
structure Vs where
 f:Fb
 cb:Nat
 rd:Nat
 ad:Option Addr
 cap:Nat
def BJ:Vs:=⟨⟨λ_=>0,λ_=>0⟩,0,0,none,0⟩
def zE(kd:B.Kd)(vb:Vs):Value:=if kd.cy.isSome=true then P0 vb.cb else .pointer none
structure kD(w:aa) (sb pb eb n:Nat) (kd:B.Kd) (vb:Vs) (M:Nat->List B.V):Prop where
 b:w.heap[sb]? = some (.cells #[.slice (some ⟨pb,0,none⟩) n n,.func (.func 59) #[P0 eb] #[],zE kd vb,.int .i64 (wrap64 (kd.un:Int)),.int .i64 (wrap64 (kd.fo:Int)),.int .i64 (wrap64 (kd.cc:Int))] 207 (0,0))
 p:oW w pb n kd.on vb.f M
 c:∀c,kd.cy=some c->mV w vb.cb vb.rd sb n vb.ad vb.cap c
def Own(n:Nat)(kd:B.Kd)(vb:Vs)(k:Nat):Prop:=(∃p,1<=p/\p<=n/\kd.on p=true/\vb.f.b p=k)\/(kd.cy.isSome=true/\oT vb.cb vb.rd vb.ad k)
theorem kD.block{w w':aa}{sb pb eb n:Nat}{kd:B.Kd}{vb:Vs}{M:Nat->List B.V}(h:kD w sb pb eb n kd vb M)(u:w'.heap[sb]? = w.heap[sb]?)(y:w'.heap[pb]? = w.heap[pb]?)(i:∀k,Own n kd vb k->w'.heap[k]? = w.heap[k]?):kD w' sb pb eb n kd vb M:=
 ⟨u.trans h.b,h.p.block y (λp a b c=>i _ (af ⟨p,a,b,c,rfl⟩)),λc e=>(h.c c e).block (λk o=>i k (ah ⟨jx e,o⟩))⟩
theorem kD.lt{w:aa}{sb pb eb n:Nat}{kd:B.Kd}{vb:Vs}{M:Nat->List B.V}(h:kD w sb pb eb n kd vb M)(k:Nat)(e:Own n kd vb k):k<w.heap.size:=by
 rcases e with⟨p,a,b,c,rfl⟩|⟨i,e⟩
 .exact(h.p.s p a b c).lt
 obtain⟨c,i⟩:=Option.isSome_iff_exists.1 i;exact(h.c c i).lt k e
def kD.kept{w w':aa}{sb pb eb n:Nat}{kd:B.Kd}{vb:Vs}{M:Nat->List B.V}(h:kD w sb pb eb n kd vb M)(i:w.grownBy w' none):kD w' sb pb eb n kd vb M:=
 h.block (i.block sb (ch h.b) im) (i.block pb h.p.p.lt im) (λk o=>i.block k (h.lt k o) im)
theorem kD.ty{w:aa}{sb pb eb n:Nat}{kd:B.Kd}{vb:Vs}{M:Nat->List B.V}(h:kD w sb pb eb n kd vb M)(k:Nat)(i:Own n kd vb k):∃e T,w.heap[k]? = some (.cells e T (0,0))/\(T=149\/T=275\/T=4\/T=3):=by
 rcases i with⟨p,a,b,c,rfl⟩|⟨o,i⟩
 .obtain⟨e,u,_⟩:=h.p.s p a b c;exact⟨_,_,u,af rfl⟩
 obtain⟨c,o⟩:=Option.isSome_iff_exists.1 o;obtain⟨e,T,u,y⟩:=(h.c c o).ty k i;exact⟨e,T,u,ah y⟩
def JL(k:Bool)(t:Nat):((JM k t:Int) == 0)=!k:=by
 unfold JM
 cases k
 .rfl
 by_cases h:t=0
 .simp[h]
 simp[h]
theorem Am(k:Bool)(t:Nat)(c1:Int)(v:Value)(w:aa):Calls prog 140 #[.agg #[vz k t,.int .i64 c1,v]] w λe w'=>e=.returned (.bool (!k))/\w.grownBy w' none:=by
 have h:=JL k t;show Calls prog 140 #[.agg #[.int .u8 (JM k t:Nat),.int .i64 c1,v]] w _;generalize JM k t=y at *;rw[<-h];clear h;go_in;go_wp2_with fail
 go_ret;exact⟨rfl,ak _ _ _⟩
end F
namespace B
variable {L:List V}{v:V}
def GB(L:List V):Nat->V:=λi=>L.getD i (0,0)
def oi(L:List V)(M:Nat->List V):St:=(0,GB L,M)
def lS(kd:Kd)(n:Nat)(L:List V)(M:Nat->List V):Prop:=jO kd L.length n (oi L M)
def nK(L:List V)(M:Nat->List V)(p:Nat):Prop:=Reach L.length (oi L M) p
theorem pG{i:Nat}(h:i<L.length):GB L i∈L:=by
 grind[GB,List.getElem?_eq_getElem,List.getElem_mem]
theorem A8(h:v∈L):∃i,i<L.length/\GB L i=v:=by
 obtain⟨i,hi,e⟩:=List.getElem_of_mem h;refine⟨i,hi,?_⟩;grind[GB,List.getElem?_eq_getElem]
theorem pk{M:Nat->List V}(h:v∈L)(e:v.1≠0):nK L M v.1:=by
 obtain⟨i,hi,rfl⟩:=A8 h;exact kx (s:=oi L M) i hi e
theorem mr{M:Nat->List V}{k:Nat}(i:nK L M k)(o:v∈M k)(e:v.1≠0):nK L M v.1:=km (s:=oi L M) i o e
def pR(L:List V)(M:Nat->List V)(v:V):Prop:=v.1=0\/v∈L\/∃p,nK L M p/\v∈M p
section
variable {kd:Kd}{n:Nat}{L L':List V}{M:Nat → List V}{v:V}
def pR.mem(h:v∈L):pR L M v:=Or.inr (Or.inl h)
theorem pR.vO(h:pR L M v)(e:v.1≠0):nK L M v.1:=by
 rcases h with h|h|⟨p,i,h⟩
 .omega
 .grind[pk]
 grind[mr]
def pR.AF(h:pR L M v)(e:lS kd n L M):sG kd.on n v:=by
 rcases h with h|h|⟨p,o,h⟩
 .exact Or.inl h
 .obtain⟨i,hi,rfl⟩:=A8 h;exact e.h1 i hi
 exact e.h2 p o v h
theorem uo(h:∀v,v∈L'->pR L M v){p:Nat}(u:nK L' M p):nK L M p:=
 u (nK L M) (λ_ hi e=>(h _ (pG hi)).vO e) (λ_ i _ o e=>mr i o e)
def CG(e:lS kd n L M)(h:∀v,v∈L'->pR L M v):lS kd n L' M:=
 EY (s:=oi L M) (s':=oi L' M) e rfl (λ_ i=>uo h i) (λ_ hi=>(h _ (pG hi)).AF e)
def CH(o:lS kd n L M){p:Nat}(i:Nat)(u:nK L M p)(e:pR L M v):lS (told kd ((M p).getD i (0,0))) n L (lay M p ((M p).set i v)):=
 EZ (s:=oi L M) o 0 p i v u (e.AF o) e.vO
def Ec{p i:Nat}(u:nK L M p)(o:pR L M v){k:Nat}(e:nK L (lay M p ((M p).set i v)) k):nK L M k:=
 sh (s:=oi L M) (x:=0) u o.vO e
theorem qS(e:lS kd n L M){p:Nat}(i:nK L M p):kd.on p=true/\1<=p/\p<=n:=mI (s:=oi L M) e i
theorem uq{p:Nat}{l:List V}(W:∀v,v∈l->pR L M v)(J:∀v,v∈L'->v=(p,0)\/pR L M v){k:Nat}(G:nK L' (lay M p l) k):k=p\/nK L M k:=by
 refine G (λk=>k=p\/nK L M k) (λi hi y=>?_) (λk G u H y=>?_)
 .rcases J _ (pG hi) with h|h
  .left
   show(GB L' i).1=p;rw[h]
  exact Or.inr (h.vO y)
 have o:u∈lay M p l k:=H;grind[iB,gh,mr,B.pR.vO]
theorem CI(Y:lS kd n L M){p:Nat}{l:List V}(h1:1<=p)(h2:p<=n)(h3:kd.on p=false)(hl:∀v,v∈l->pR L M v)(hL:∀v,v∈L'->v=(p,0)\/pR L M v):lS (laid kd p) n L' (lay M p l):=by
 refine⟨λi hi=>?_,λk o u H=>?_,λc hc=>?_⟩
 .show sG (mark kd.on p) n (GB L' i);rcases hL _ (pG hi) with h|h
  .rw[h];exact Or.inr ⟨h1,h2,kh _ _,rfl⟩
  exact(h.AF Y).up (λk=>kL p)
 .have y:u∈lay M p l k:=H;show sG (mark kd.on p) n u;by_cases e:k=p
  .subst e;rw[iB]at y;exact((hl u y).AF Y).up (λj=>kL k)
  rw[gh _ _ _ _ e]at y;rcases uq hl hL o with h|h
  .omega
  exact(Y.h2 k h u y).up (λj=>kL p)
 have W:kd.cy.map (λc:Cy=>(⟨mark c.m p,c.st,c.nx⟩:Cy))=some c:=hc;rw[Option.map_eq_some_iff]at W;obtain⟨c0,a6,rfl⟩:=W;obtain⟨hx,T,hT,G⟩:=Y.h3 c0 a6;have G:kQ kd.on n M c0 T:=G;have hn:∀k,T k->k≠p:=by
  rintro k o rfl;have:=(G.ha k o).2.2;rw[h3]at this;cases this
 refine⟨hx,λk=>k=p\/T k,λk o=>(uq hl hL o).imp id (hT k),λk o=>?_,λk o u H=>?_,λk o=>?_,λk o=>kL _ (G.hd k o),G.he,λk o=>?_,G.hg,G.hh,λk a1 a2 a3=>?_⟩
 .rcases o with rfl|o
  .exact⟨h1,h2,kh _ _⟩
  have:=G.ha k o;exact⟨this.1,this.2.1,kL _ this.2.2⟩
 .have y:u∈lay M p l k:=H;rcases o with rfl|o
  .rw[iB]at y;exact⟨((hl u y).AF Y).up (λj=>kL k),λJ=>Or.inr (hT _ ((hl u y).vO J))⟩
  rw[gh _ _ _ _ (hn k o)]at y;have:=G.hb k o u y;exact⟨this.1.up (λk=>kL p),λJ=>Or.inr (this.2 J)⟩
 .grind[mark,fZ,B.kQ.hc]
 .intro S s1 s2 _ s4;have a7:∀k,k∈c0.st->∀v,v∈lay M p l k->v.1≠0->S v.1:=s2;have a8:∀k,mark c0.m p k=false->S k->∀v,v∈lay M p l k->v.1≠0->S v.1:=s4;rcases o with rfl|o
  .grind[kh]
  refine(G.hf k o (λk=>S k/\T k) (λk o=>⟨s1 k (kL _ o),G.hc k o⟩) (λk o u H J=>?_) (λv hv=>by grind) (λk hm o u H J=>?_)).1
  .have a4:=G.hc k (G.hd k o);exact⟨a7 k o u (by grind[gh]) J,(G.hb k a4 u H).2 J⟩
  have Z:=hn k o.2;exact⟨a8 k (by grind[fZ]) o.1 u (by grind[gh]) J,(G.hb k o.2 u H).2 J⟩
 by_cases e:k=p
 .grind[kh]
 have a0:mark kd.on p k=true:=a3;rw[fZ _ _ _ e]at a0;exact kL _ (G.hi k a1 a2 a0)
end
end B
namespace M
def nx(s:ByteArray)(hi:Nat)(q:Nat)(bad:Bool):Nat×Bool:=
 if bad=true then(q,true) else if tk s q 0 hi=true then(q+1,false) else(q,true)
def Df(r f k:Nat):Nat:=if k=114 then r-1 else if k=102 then f-1 else if k=115 then 8 else if k=45 then 0 else 255
def tb(s:ByteArray)(l q:Nat):Bool:=decide (q+1<s.size/\l<256*bt s q+bt s (q+1))
def sZ(s:ByteArray)(r f l m i k q:Nat)(bad:Bool):Nat×Bool:=
 nx s (Df r f k) q (bad || (decide (i=2/\m=116) && tb s l q))
def vD(s:ByteArray)(r f l m:Nat):List Nat->Nat->Nat×Bool->Nat×Bool
 | [],_,st=>st
 | k :: ks,i,st=>vD s r f l m ks (i+1) (sZ s r f l m i k st.1 st.2)
def Em(s:ByteArray)(hi q:Nat):nx s hi q true=(q,true):=by simp[nx]
def yF{s:ByteArray}{hi q:Nat}{bad:Bool}(h:q<=s.size):q<=(nx s hi q bad).1/\(nx s hi q bad).1<=s.size:=by
 unfold nx;split
 .exact⟨Nat.le_refl _,h⟩
 split
 .rename_i e;have:=gU e;simp;omega
 exact⟨Nat.le_refl _,h⟩
def BB(s:ByteArray)(r f l m i k q:Nat):sZ s r f l m i k q true=(q,true):=by simp[sZ,Em]
theorem FA(s:ByteArray)(r f l m:Nat)(e:List Nat):∀i q,vD s r f l m e i (q,true)=(q,true):=by
 induction e with
 | nil=>intro i q;rfl
 | cons k e o=>intro i q;unfold vD;simp only[BB];exact o _ _
def GZ:∀e,e<23->(k1 e=116->k2 e=116)/\(k0 e=114\/k0 e=102\/k0 e=115\/k0 e=107\/k0 e=45)/\(k1 e≠116->(k1 e=114\/k1 e=102\/k1 e=115\/k1 e=107\/k1 e=45)/\(k2 e=114\/k2 e=102\/k2 e=115\/k2 e=107\/k2 e=45)):=by decide
def Ap(r f k:Nat)(h:k=114\/k=102\/k=115\/k=107\/k=45):Df r f k=ko r f k:=by
 rcases h with rfl|rfl|rfl|rfl|rfl<;>rfl
theorem Bp(r f:Nat):Df r f 116=255:=rfl
theorem xZ(s:ByteArray)(q:Nat):tk s q 0 255=decide (q<s.size):=by
 have:=Fy s q;unfold tk;congr 1
 apply propext
 constructor
 .intro h;exact h.1
 intro h;exact⟨h,ag,ag⟩
def Fz(s:ByteArray)(p op r f l:Nat)(h:op<23): vD s r f l (k1 op) (kd.getD op []) 1 (p,false)=((tJ s p op r f l).1,!(tJ s p op r f l).2):=by
 obtain⟨h1,h2,h3⟩:=uG op h;obtain⟨m1,m2,m3⟩:=GZ op h;rw[h1];simp only[vD];unfold tJ;have Y:sZ s r f l (k1 op) 1 (k0 op) p false=nx s (ko r f (k0 op)) p false:=by
  unfold sZ;rw[Ap _ _ _ m2];simp
 by_cases o:tk s p 0 (ko r f (k0 op))=true
 .have p1:=(gU o).1;have i:sZ s r f l (k1 op) 1 (k0 op) p false=(p+1,false):=by rw[Y];simp[nx,o]
  rw[if_pos o,i];by_cases ht:k1 op=116
  .rw[if_pos ht];have W:sZ s r f l (k1 op) (1+1) (k1 op) (p+1) false=nx s 255 (p+1) (tb s l (p+1)):=by
    unfold sZ;rw[ht,Bp];simp
   have y:∀q bad,sZ s r f l (k1 op) (1+1+1) (k2 op) q bad=nx s 255 q bad:=by
    intro q bad;unfold sZ;rw[m1 ht,Bp];simp
   simp only[W,y];unfold wI;by_cases c1:s.size<p+1+2
   .rw[if_pos c1];have e:tb s l (p+1)=false:=by unfold tb;simp;omega
    rw[e];by_cases H:p+1<s.size
    .have:s.size=p+2:=by omega
     simp[nx,xZ,this]
    have:s.size=p+1:=by omega
    simp[nx,xZ,this]
   rw[if_neg c1];by_cases H:l<256*bt s (p+1)+bt s (p+1+1)
   .have J:tb s l (p+1)=true:=by unfold tb;simp;omega
    rw[if_pos H,J];simp[nx]
   have e:tb s l (p+1)=false:=by unfold tb;simp;omega
   rw[if_neg H,e];have d1:p+1<s.size:=ag
   have d2:p+1+1<s.size:=ag;simp[nx,xZ,d1,d2]
  obtain⟨m4,m5⟩:=m3 ht;rw[if_neg ht];have W:sZ s r f l (k1 op) (1+1) (k1 op) (p+1) false=nx s (ko r f (k1 op)) (p+1) false:=by
   unfold sZ;rw[Ap _ _ _ m4];simp[ht]
  have y:∀q bad,sZ s r f l (k1 op) (1+1+1) (k2 op) q bad=nx s (ko r f (k2 op)) q bad:=by
   intro q bad;unfold sZ;rw[Ap _ _ _ m5];simp
  simp only[W,y];by_cases G:tk s (p+1) 0 (ko r f (k1 op))=true
  .by_cases Z:tk s (p+1+1) 0 (ko r f (k2 op))=true
   .simp[nx,G,Z]
   simp[nx,G,Z]
  simp[nx,G]
 have i:sZ s r f l (k1 op) 1 (k0 op) p false=(p,true):=by rw[Y];simp[nx,o]
 rw[if_neg o,i];simp[BB]
