import Derived.Test.YtnjiinbhbjpfkaaGreatDoorKA
set_option maxRecDepth 100000
set_option maxHeartbeats 0
set_option linter.all false
namespace Go.Proofs.YtnjiinbhbjpfkaaGreatDoor
open Go.RowKit Go.Proofs.Tryz
section
def Fr(w:World)(fb cb L nx rb nr:Nat)(back:Value)(R:Nat->B.V):Prop:=w.heap[fb]? = some (ij cb L nx rb nr back)/\Full w rb 149 (nr*2) (nr*2) (eC R)/\fb≠rb
theorem Fr.kept{w w':World}{fb cb L nx rb nr:Nat}{back:Value}{R:Nat->B.V}(h:Fr w fb cb L nx rb nr back R)(i:w.grownBy w' none):Fr w' fb cb L nx rb nr back R:=
 ⟨cm i h.1 (by intro e;cases e),h.2.1.block (i.block rb h.2.1.lt (by intro e;cases e)),h.2.2⟩
theorem FD{w w1:World}{J H u G W y o:Value}(Y:((w.alloc (.cells #[J,H,u,G,W,y,o] 186)).drew).grownBy w1 none): w1.cell? ⟨w.heap.size,0,none⟩=some J/\w1.cell? ⟨w.heap.size,1,none⟩=some H/\w1.cell? ⟨w.heap.size,2,none⟩=some u/\w1.cell? ⟨w.heap.size,3,none⟩=some G/\w1.cell? ⟨w.heap.size,4,none⟩=some W/\w1.cell? ⟨w.heap.size,5,none⟩=some y/\w1.cell? ⟨w.heap.size,6,none⟩=some o/\w.heap.size<w1.heap.size:=by
 have i:=cm Y (show _ from bf w _) (by intro e;cases e);exact⟨by simp[World.cell?,i],by simp[World.cell?,i],by simp[World.cell?,i],by simp[World.cell?,i],by simp[World.cell?,i],by simp[World.cell?,i],by simp[World.cell?,i],bz i⟩
theorem EN(op a b c fb tb eb:Nat)(Y:b<256)(G:c<256)(w:World): Calls prog 84 #[dZ op a b c fb tb eb] w λe w'=>e=.returned (vA (0,B.wide b c))/\w.grownBy w' none:=by
 generalize o:B.wide b c=y;have u:Hid (B.wide b c=y):=o;go_in;go_wp2_with fail
 refine(xC op a b c Y G _).mono ?_;rw[u.out];rintro e w1 ⟨rfl,i⟩;have hz:=i.size;simp at hz;obtain⟨k0,k1⟩:=bh i (a:=⟨w.heap.size+1,0,none⟩) (by simp);obtain⟨k2,H⟩:=bh i (a:=⟨w.heap.size+1,1,none⟩) (by simp);simp[go_sem]at k0 k1 k2 H;have J:Hid (w.grownBy w1 none):=an (au (ah _ _ _) _) i;go_wp2_with fail
 refine(fH y _).mono ?_;rintro e w2 ⟨rfl,rfl⟩;have W:w.heap.size+1<w1.heap.size:=by omega
 go_wp2_with fail
 refine da (v:=vA (0,y)) (by simp[results,results84,go_sem,W,k0,k2]) rfl ⟨rfl,?_⟩;repeat (first|exact J.out|refine au ?_ _|refine bp ?_ (ab (by simp)) _)
theorem xJ(op a b c fb tb eb cb L nx rb nr vb:Nat)(back:Value)(R:Nat->B.V)(hb:b<256)(W:c<256)(Y:a<nr)(w:World)(J:Fr w fb cb L nx rb nr back R)(hv:w.cell? ⟨vb,0,none⟩=some (Fv 84 #[]))(Z:vb<w.heap.size): Calls prog 148 #[dZ op a b c fb tb eb,P0 vb] w λe w'=>e=.returned (.tuple #[])/\w.grownBy w' (some rb)/\Fr w' fb cb L nx rb nr back (B.set R a (0,B.wide b c)):=by
 have G:=az J;clear J;have hn:=EN op a b c fb tb eb hb W;generalize B.wide b c=y at *;have HN:Hid (∀w,Calls prog 84 #[dZ op a b c fb tb eb] w λe w'=>e=.returned (vA (0,y))/\w.grownBy w' none):=hn;clear hn;go_in;go_wp2_with fail
 go_region_with (first|(go_at_call 84;refine(HN.out _).mono ?_;rintro e w1 ⟨rfl,o⟩;obtain⟨s0,s1,s2,s3,s4,s5,s6,s7⟩:=FD o;have i:Hid (w.grownBy w1 none):=an (by repeat (first|exact ax _ _|refine bq ?_|refine au ?_ _)) o;clear o)|(go_at_call 149;refine(js op a b c fb tb eb cb L nx rb nr back R (0,y) w1 (G.out.kept i.out).1 (G.out.kept i.out).2.1 Y).mono ?_;rintro e w2 ⟨rfl,u,H⟩))
 all_goals
  go_wp2_with fail
  go_end0;refine⟨rfl,an (eD i.out) u,cm u (G.out.kept i.out).1 (by intro e;injection e with e;exact G.out.2.2 e),H,G.out.2.2⟩
theorem D2(op a b c fb tb eb cb L nx rb nr y vb:Nat)(back:Value)(R:Nat->B.V)(hb:b<256)(W:c<256)(ha:a<nr)(w:World)(J:Fr w fb cb L nx rb nr back R)(Y:y<w.heap.size)(hw:w.cell? ⟨y,0,none⟩=some (Fv 148 #[P0 vb]))(Z:w.cell? ⟨vb,0,none⟩=some (Fv 84 #[]))(G:vb<w.heap.size): Calls prog 163 #[dZ op a b c fb tb eb,P0 y] w λe w'=>e=.returned (.int .i64 0)/\w.grownBy w' (some rb)/\Fr w' fb cb L nx rb nr back (B.set R a (0,B.wide b c)):=by
 have KF:Hid (Fr w fb cb L nx rb nr back R):=J;go_in;go_wp2_with fail
 refine(xJ op a b c fb tb eb cb L nx rb nr vb back R hb W ha _ (KF.out.kept (ah _ _ _)) (by simp[go_sem,G,Z]) (by simp;omega)).mono ?_;rintro e w1 ⟨rfl,i,o⟩;have u:Hid (Fr w1 fb cb L nx rb nr back (B.set R a (0,B.wide b c))):=o;have H:Hid (w.grownBy w1 (some rb)):=an (ah _ _ _) i;go_wp2_with fail
 go_ret;exact⟨rfl,H.out,u.out⟩
theorem qf{w:World}{i g n c:Nat}{e:TypeId}{xs:List Value}(J:i<=g)(hn:n<=c)(W:c<=maxLen)(Z:xs.length=n)(H:jB w g e c)(hx:∀j x,xs[j]? = some x->w.cell? ⟨g,j,none⟩=some x):w.ownsRow i e 1 (.slice (some ⟨g,0,none⟩) n c) n xs:=by
 obtain⟨u,y,Y⟩:=H;refine⟨by rw[Z,Nat.mul_one],ab ⟨g,c,u,rfl,J,y,hn,W,by rw[Y,Nat.mul_one],?_⟩⟩;rw[Nat.mul_one];apply List.ext_getElem?
 intro j;by_cases G:j<n
 .obtain⟨x,o⟩:∃x,xs[j]? = some x:=⟨_,bn (by omega)⟩;have:=hx j x o;rw[o,dh,aj G];simp only[World.cell?,y]at this;simpa using this
 rw[cw (by simp;omega),cw (by omega)]
theorem iG{w:World}{i g n c:Nat}{e:TypeId}{xs:List Value}(h:w.ownsRow i e 1 (.slice (some ⟨g,0,none⟩) n c) n xs):i<=g/\n<=c/\c<=maxLen/\xs.length=n/\jB w g e c/\∀j x,xs[j]? = some x->w.cell? ⟨g,j,none⟩=some x:=by
 rcases h with⟨J,⟨h,_⟩|⟨g',c',o,Y,h2,H,h4,Z,y,G⟩⟩
 .cases h
 cases Y;rw[Nat.mul_one]at J y G;refine⟨h2,h4,Z,J,⟨o,H,y⟩,λj x u=>?_⟩;have W:j<n:=by
  have:=(bu.1 u).1;omega
 rw[<-G,dh,aj W]at u;simp only[World.cell?,H];simpa using u
theorem tj{w:World}(g:Nat):∀{w1:World},w.grownBy w1 (some g)->∀(e:List Value) (o:Nat),w.grownBy (w1.setCells g o e) (some g)
 | _,h,[],_=>h
 | _,h,_ :: r,o=>tj g (bp h (ag rfl) _) r (o+1)
theorem mQ{w w':World}(h:w.grownBy w' none)(g:Nat):w.grownBy w' (some g):={ h with block:=λk i _=>h.block k i (by intro e;cases e) }
theorem qm:∀(xs:List Nat) (x j:Nat),xs[j]? = some x->xs.idxOf x<=j
 | [],x,j,h=>by simp at h
 | y :: xs,x,j,h=>by
  rw[List.idxOf_cons];by_cases e:y=x
  .rw[e];simp
  have i:(y == x)=false:=by simpa using e
  rw[i]
  cases j with
  | zero=>simp at h;exact ch h e
  | succ j=>
   have:=qm xs x j (by simpa using h);show xs.idxOf x+1<=j+1;omega
theorem Ck(g c n tb:Nat)(xs:List Nat)(w:World)(hn:n=xs.length)(a3:n<=1000000000)(W:∀j x,xs[j]? = some x->w.cell? ⟨g,j,none⟩=some (P0 x))(Z:jB w tb 160 7)(hX:∀x,x∈xs->jB w x 160 7)(hm:tb∈xs): Calls prog 183 #[.slice (some ⟨g,0,none⟩) n c,P0 tb] w λe w'=>e=.returned (.int .i64 (xs.idxOf tb:Nat))/\w'=w:=by
 obtain⟨i0,hi,a6,J,a1⟩:=info_parts Tryz.Ad;have a2:=λ(w:World)=>run_eql_ptr_same (P:=prog) (w:=w) (tp:=155) (te:=160) ⟨tb,0,none⟩ underlying155 hi;have G:=List.idxOf_lt_length_of_mem hm;have HC:=az W;have HT:=az Z;have HX:=az hX;have HL:=az G;have HN:=az hn;clear W Z hX G hm hn;go_in;go_wp2_with fail
 go_loopw [8] (λi wr=>∃j:Nat,i=.int .i64 j/\j<=xs.idxOf tb/\wr=w) (λi _=>xs.idxOf tb-(intOf i).toNat)
 case atStart=>exact⟨0,rfl,by omega,rfl⟩
 case round=>
  obtain⟨j,rfl,hj,rfl⟩:=hrel;have a4:j<n:=by have:=HL.out;have:=HN.out;omega
  obtain⟨x,y⟩:∃x,xs[j]? = some x:=⟨_,bn (by have:=HN.out;omega)⟩;have cj:=HC j x y;by_cases o:j=xs.idxOf tb
  .have u:x=tb:=by
    have:=List.getElem_idxOf (x:=tb) HL;rw[bu]at y;obtain⟨h1,h2⟩:=y;subst o;rw[<-h2];exact this
   subst u;have HJ:=az o;clear o;go_wp2_with fail
   go_ret;exact⟨by simp[HJ.out],rfl⟩
  have u:x≠tb:=by
   intro e;subst e;have a5:=qm xs x j y;omega
  obtain⟨ct,bt,_⟩:=HT;obtain⟨cx,Y,_⟩:=HX x (ed y);have a0:=run_eql_ptr_other (P:=prog) (w:=wr) (tp:=155) (te:=160) (a:=⟨tb,0,none⟩) (b:=⟨x,0,none⟩) underlying155 hi (by rw[J];decide) (by intro e;injection e with e;exact u e.symm) bt Y;go_wp2_with fail
  go_roundw
  case rel=>exact⟨j+1,by go_num,by omega,trivial⟩
  case measure=>simp[intOf];omega
theorem Cn(g c n i J:Nat)(xs:List Value)(w:World)(a0:w.ownsRow J 155 1 (.slice (some ⟨g,0,none⟩) n c) n xs)(aI:i<n)(h1:∀x,x∈xs->x.oneCell'=true)(aF:n<=1000000000): Calls prog 184 #[.slice (some ⟨g,0,none⟩) n c,.int .i64 (i:Int),.int .i64 ((i:Int)+1)] w λe w'=>e=.returned (.slice (some ⟨g,0,none⟩) (n-1) c)/\w'.ownsRow J 155 1 (.slice (some ⟨g,0,none⟩) (n-1) c) (n-1) (xs.eraseIdx i)/\w.grownBy w' (some g):=by
 obtain⟨hb,hc,hm,hl,hB,y⟩:=iG a0;clear a0;obtain⟨i0,hi,a6,a4,a9⟩:=info_parts Tryz.rA;have hv:∀w,(zeroValue 155).run prog w=.ok (.pointer none) w:=by intro w;simp[zeroValue,typeInfo,hi,a6]
 have W:∀(ty:TypeId) (w1:World) (G:Nat),jB w1 g 155 c->(Builtin.clear_ #[136] ty #[.slice (some ⟨g,n-1,none⟩) 1 G]).run prog w1=.ok (.tuple #[]) (w1.setCell ⟨g,n-1,none⟩ (.pointer none)):=by
  intro ty w1 G a2;refine Go.Lib.run_clear_slice (P:=prog) w1 136 155 ty (.pointer none) underlying136 hv rfl rfl g (n-1) 1 G (by omega) ?_ ?_
  .intro j Z;obtain⟨⟨v,h⟩,_⟩:=a2.cell (n-1+j) (by omega);rw[h];rfl
  intro j Z;exact(a2.cell (n-1+j) (by omega)).2
 have aG:i<=c:=by omega
 have aA:(0:Int)<=(i:Int)+1:=by omega
 have a8:i+1<=c:=by omega
 have aC:(n:Int)<=(c:Int):=by omega
 have aE:(i:Int)+1<=(n:Int):=by omega
 have aH:(c:Int)<=9223372036854775807:=by unfold maxLen at hm;omega
 have HB:=az hB;have HX:=az y;have H1:=az h1;have H:=az hl;have Y:=az W;have HM:=az hm;clear hB y h1 hl W hm;by_cases o:i+1=n
 .obtain rfl:n=i+1:=o.symm;have cl:∀(ty:TypeId) (G:Nat),(Builtin.clear_ #[136] ty #[.slice (some ⟨g,i,none⟩) 1 G]).run prog w.drew=.ok (.tuple #[]) (w.drew.setCell ⟨g,i,none⟩ (.pointer none)):=λty G=>Y.out ty w.drew G HB.out;clear o;go_in;go_wp2_with fail
  go_region_law (refine l9 rfl (.tmp 22) (.tmp 25) 136 rfl 155 i0 underlying136 hi (some ⟨g,0,none⟩) (if c=i+1 then some ⟨g,0,none⟩ else some ⟨g,i+1,none⟩) i c (c-(i+1)) (by first|rfl|simp[Act.eval,Act.put]) (by first|rfl|simp[Act.eval,Act.put]) (by omega) ?_)
  all_goals
   go_wp2_with fail
   all_goals
    go_ret;refine⟨rfl,qf hb (by omega) (by have:=HM.out;omega) (by rw[List.length_eraseIdx,aj (by rw[H.out];omega),H.out];omega) (by obtain⟨cu,k1,k2⟩:=HB.out.set g i (.pointer none);exact⟨cu,k1,by omega⟩) (λj x y=>?_),?_⟩
    .have Z:j<i:=by
      have:=(bu.1 y).1;rw[List.length_eraseIdx,aj (by rw[H.out];omega),H.out]at this;omega
     rw[List.getElem?_eraseIdx_of_lt Z]at y;have:=HX.out j x y;have h2:(World.setCell w ⟨g,i,none⟩ (.pointer none)).cell? ⟨g,j,none⟩=some x:=by
      rw[dF _ _ _ _ (by intro e;injection e with _ e;omega)];exact this
     exact h2
    repeat (first|exact ax _ _|refine bq ?_|refine bp ?_ (ag rfl) _)
 obtain⟨m,a7⟩:∃m,n=i+1+m:=⟨n-(i+1),by omega⟩;have aD:1<=m:=by omega
 subst a7;have aB:¬c=i+1:=by omega
 have r1:(xs.drop (i+1)).length=m*1:=by rw[List.length_drop,H.out,Nat.mul_one];omega
 have r2:∀j u,(xs.drop (i+1))[j]? = some u->w.drew.cell? ((⟨g,i+1,none⟩:Addr).add j)=some u:=λj u hu=>by
  rw[List.getElem?_drop]at hu;have:=HX.out (i+1+j) u hu
  cases j with
  | zero=>simpa[Addr.add] using this
  | succ j=>simpa[Addr.add] using this
 have r3:∀u,u∈xs.drop (i+1)->u.oneCell'=true:=λu hu=>H1.out u (List.mem_of_mem_drop hu);have r5:∀j,j<(xs.drop (i+1)).length->(w.drew.cell? ⟨g,0+i*1+j,none⟩).isSome=true/\w.drew.frozen? ⟨g,0+i*1+j,none⟩=false:=λj Z=>by
  rw[r1]at Z;obtain⟨⟨v,h⟩,hf⟩:=HB.out.cell (0+i*1+j) (by omega);have h':w.drew.cell? ⟨g,0+i*1+j,none⟩=some v:=h;exact⟨by rw[h'];rfl,hf⟩
 have HR:=az (ay r1 (ay r2 (ay r3 r5)));have e1:i+1+m-(i+1)=m:=by omega
 have e2:i+1+m-(i+m)=1:=by omega
 have e3:i+m<=c:=by omega
 have e6:(i:Int)+1<=(i:Int)+1+(m:Int):=by omega
 have BS:jB (w.drew.setCells g i (xs.drop (i+1))) g 155 c:=jB.Ex g _ _ _ (show jB w.drew g 155 c from HB.out);have cl:=λty G=>by
  have:=Y.out ty _ G BS;rw[show i+1+m-1=i+m by omega]at this;exact this
 have a5:=az BS;clear r1 r2 r3 r5 o BS;go_in;go_wp2_with fail
 go_region_law (refine step_append_room rfl (.tmp 22) (.tmp 25) 136 rfl 155 i0 1 underlying136 hi a4 g 0 i c (by first|rfl|simp[Act.eval,Act.put]) ⟨g,i+1,none⟩ m (c-(i+1)) (xs.drop (i+1)) (by first|rfl|simp[Act.eval,Act.put]) HR.out.1 HR.out.2.1 HR.out.2.2.1 (by omega) HR.out.2.2.2 ?_)
 all_goals
  go_wp2_with fail
  go_ret;rw[show i+1+m-1=i+m by omega];have a1:∀j,j<(xs.drop (i+1)).length->(w.drew.cell? ⟨g,i+j,none⟩).isSome=true:=λj Z=>by
   have:=(HR.out.2.2.2 j Z).1;simpa using this
  refine⟨rfl,qf hb (by omega) HM.out (by rw[List.length_eraseIdx,aj (by rw[H.out];omega),H.out];omega) (by obtain⟨cu,k1,k2⟩:=a5.out.set g (i+m) (.pointer none);exact⟨cu,k1,k2⟩) (λj x y=>?_),?_⟩
  .have Z:j<i+m:=by
    have:=(bu.1 y).1;rw[List.length_eraseIdx,aj (by rw[H.out];omega),H.out]at this;omega
   have h2:((w.drew.setCells g i (xs.drop (i+1))).setCell ⟨g,i+m,none⟩ (.pointer none)).cell? ⟨g,j,none⟩=some x:=by
    rw[dF _ _ _ _ (by intro e;injection e with _ e;omega)];by_cases a3:j<i
    .rw[World.cell?_setCells_out g _ _ _ _ (λ_ _=>ag a3)];rw[List.getElem?_eraseIdx_of_lt a3]at y;exact HX.out j x y
    obtain⟨t,rfl⟩:∃t,j=i+t:=⟨j-i,by omega⟩;rw[List.getElem?_eraseIdx_of_ge (by omega)]at y;have hd:(xs.drop (i+1))[t]? = some x:=by rw[List.getElem?_drop,<-y];congr 1;omega
    have ht:=(bu.1 hd).1;rw[World.cell?_setCells_in g _ _ _ a1 t ht];obtain⟨_,hv⟩:=bu.1 hd;rw[hv]
   exact h2
  repeat (first|exact ax _ _|refine bq ?_|refine bp ?_ (ag rfl) _|refine tj g ?_ _ _)
theorem kZ{P:Program}{w:World}{ops:Array Oper}{rest:List Oper}{o:Oper}{a:Act}{Q:Exit->Act->World->Prop}(aA:o.guard=none)(s x:Operand)(t:TypeId)(ho:o.op=.call { callee:=.builtin .append,args:=#[s,x],argTypes:=#[t,t] })(e:TypeId)(i:TypeInfo)(z:Value)(size bytes:Nat)(ht:P.underlying t=some (.slice e))(hi:P.info? e=some i)(hz:i.zero=some z)(J:i.size=size)(a2:i.bytes=bytes)(a3:z.cells.size=size)(a5:0<size)(a1:Nat)(ao:Option Addr)(n cap:Nat)(xs:List Value)(hs:a.eval s=.slice ao n cap)(a0:w.ownsRow a1 e size (.slice ao n cap) n xs)(ad:Addr)(m c:Nat)(y:List Value)(hx:a.eval x=.slice (some ad) m c)(hl:y.length=m*size)(Y:∀j u,y[j]? = some u->w.cell? (ad.add j)=some u)(h1:∀u∈y,u.oneCell'=true)(a4:n+m<=maxLen)(G:(n+m)*bytes<=140737488355328)(Z:cap<n+m)(h:∀W w',w'.ownsRow w.heap.size e size W (n+m) (xs++y)->w.grownBy w' none->wpList P ops Q rest (a.put o.dst W) w'):wpList P ops Q (o :: rest) a w:=by
 refine wpList_plain aA λ_ hK=>?_;have a9:∃W w',(Builtin.append_ #[t,t] o.type #[.slice ao n cap,.slice (some ad) m c]).run P w=.ok W w'/\w'.ownsRow w.heap.size e size W (n+m) (xs++y)/\w.grownBy w' none:=by
  rcases a0 with⟨a7,⟨hv,h0⟩|⟨g,c',aB,hv,_,h2,h3,h4,h5,h6⟩⟩
  .injection hv with e1 e2 e3;subst e1 e2 e3;obtain rfl:xs=[]:=List.eq_nil_of_length_eq_zero (by simpa using a7);obtain⟨W,w',H,r1,r2,_⟩:=run_append_own (P:=P) w w.heap.size t o.type e i z size bytes ht hi hz J a2 a3 a5 (.slice none 0 0) 0 [] (dJ w _ e size) ad m c y hl Y h1 a4 G (bj _);exact⟨W,w',H,r1,r2⟩
  injection hv with e1 e2 e3;subst e1 e3;have a8:∀j u,xs[j]? = some u->w.cell? ((⟨g,0,none⟩:Addr).add j)=some u:=λj u hu=>by
   have hj:j<n*size:=by
    have:=(bu.1 hu).1;omega
   rw[<-h6,dh,aj hj]at hu;have a6:w.cell? ⟨g,j,none⟩=some u:=by
    simp only[World.cell?,h2];simpa using hu
   cases j with
   | zero=>simpa[Addr.add] using a6
   | succ j=>simpa[Addr.add] using a6
  obtain⟨W,w',H,r1,r2⟩:=run_append_arg_grows (P:=P) w t o.type e i z size bytes ht hi hz J a2 a3 a5 ⟨g,0,none⟩ n cap xs a7 a8 ad m c y hl Y Z a4 G;exact⟨W,w',H,r1,r2⟩
 obtain⟨W,w',hr,h2,h3⟩:=a9;unfold Oper.wp execOp;simp only[ho,resolve,invoke,builtin,Sem.run_bind,Sem.run_pure,Result.andThen_ok,List.map_toArray,List.map_cons,List.map_nil,hs,hx,hr];exact hK _ _ (h W w' h2 h3)
theorem gw{w:World}{b y size n:Nat}{e:TypeId}{v:Value}{xs:List Value}(h:w.ownsRow b e size v n xs)(G:y<=b):w.ownsRow y e size v n xs:=by
 rcases h with⟨u,o|⟨g,c,i,o,J,H⟩⟩
 .exact⟨u,ag o⟩
 exact⟨u,ab ⟨g,c,i,o,dH G J,H⟩⟩
def My(w w':World)(v:Value)(n base:Nat)(xs:List Value)(y:Value)(e:Ending):Prop:=
 ∃g' c',e=.returned (.slice (some ⟨g',0,none⟩) (n+1) c')/\w'.ownsRow base 155 1 (.slice (some ⟨g',0,none⟩) (n+1) c') (n+1) (xs++[y])/\w.grownBy w' v.ownBlock/\(v.ownBlock=some g'\/w.heap.size<=g')
theorem Co(n i x:Nat)(y:Value)(xs:List Value)(hy:y.oneCell'=true)(w:World)(ad:Option Addr)(c:Nat)(o:w.ownsRow i 155 1 (.slice ad n c) n xs)(hx:w.cell? ⟨x,0,none⟩=some y)(hb:i<=w.heap.size)(aB:n<=1000000000): Calls prog 203 #[.slice ad n c,.int .i64 n,.slice (some ⟨x,0,none⟩) 1 1] w λe w'=>My w w' (.slice ad n c) n i xs y e:=by
 obtain⟨i0,hi,a7,a4,a0⟩:=info_parts Tryz.rA;have HO:=az o;have aC:n<=c:=by
  rcases o.2 with⟨h,h0⟩|⟨g',c',Z,J,_,_,h4,_⟩
  .injection h;omega
  injection J;omega
 have aD:(c:Int)<=9223372036854775807:=by
  rcases o.2 with⟨h,h0⟩|⟨g',c',Z,J,_,_,h4,h5,_⟩
  .injection h;omega
  injection J;unfold maxLen at h5;omega
 have G:n<c->∃g,ad=some ⟨g,0,none⟩:=λa8=>by
  rcases o.2 with⟨h,h0⟩|⟨g',c',Z,J,_⟩
  .injection h;omega
  injection J with J;exact⟨g',J⟩
 by_cases a8:n<c
 .obtain⟨g,rfl⟩:=G a8;go_in;go_wp2_with (at_builtin;refine pU rfl (.tmp 23) (.tmp 24) 136 rfl i 155 i0 _ 1 8 underlying136 hi a7 a4 a0 rfl (by decide) _ _ _ _ rfl HO ⟨x,0,none⟩ 1 1 [y] rfl rfl ?c1 ?c2 ?c3 ?c4 ?c5 ?c6 ?_)
  try case c1=>intro j u H;match j,H with|0,H=>(simp at H;subst H;simpa[Addr.add] using hx)
  try case c2=>intro u Y;simp at Y;subst Y;exact hy
  try case c3=>unfold maxLen;omega
  try case c4=>omega
  try case c5=>exact hb
  try case c6=>omega
  intro w' W hg;go_wp2_with fail
  go_ret;exact⟨g,c,rfl,W,hg,ag rfl⟩
 have a6:(ad=none/\n=0/\c=0)\/∃g,ad=some ⟨g,0,none⟩/\n=c:=by
  rcases HO.2 with⟨h,h0⟩|⟨g',c',Z,J,_,_,h4,_⟩
  .injection h with a1 a2 a3;exact ag ⟨a1,a2,a3⟩
  injection J with a1 a2 a3;exact ab ⟨g',a1,by omega⟩
 rcases a6 with⟨rfl,rfl,rfl⟩|⟨g,rfl,rfl⟩
 .go_in;go_wp2_with (at_builtin;refine kZ rfl (.tmp 23) (.tmp 24) 136 rfl 155 i0 _ 1 8 underlying136 hi a7 a4 a0 rfl (by decide) i _ _ _ _ rfl HO ⟨x,0,none⟩ 1 1 [y] rfl rfl ?c1 ?c2 ?c3 ?c4 ?c5 ?_)
  try case c1=>intro j u H;match j,H with|0,H=>(simp at H;subst H;simpa[Addr.add] using hx)
  try case c2=>intro u Y;simp at Y;subst Y;exact hy
  try case c3=>unfold maxLen;omega
  try case c4=>omega
  try case c5=>omega
  intro v' w' W hg;obtain⟨g',c',rfl⟩:=dM W (by omega);have a5:=(iG W).1;go_wp2_with fail
  go_ret;exact⟨g',c',rfl,gw W hb,hg,ab a5⟩
 go_in
 go_wp2_with (at_builtin;refine kZ rfl (.tmp 23) (.tmp 24) 136 rfl 155 i0 (.pointer none) 1 8 underlying136 hi a7 a4 a0 rfl (by decide) i (some ⟨g,0,none⟩) n n xs rfl HO ⟨x,0,none⟩ 1 1 [y] rfl rfl ?c1 ?c2 (by unfold maxLen;omega) ?c4 (by omega) ?_)
 try case c1=>intro j u H;match j,H with|0,H=>(simp at H;subst H;simpa[Addr.add] using hx)
 try case c2=>intro u Y;simp at Y;subst Y;exact hy
 try case c4=>omega
 intro v' w' W hg;obtain⟨g',c',rfl⟩:=dM W (by omega);have a5:=(iG W).1;go_wp2_with fail
 go_ret;exact⟨g',c',rfl,gw W hb,mQ hg g,ab a5⟩
end
section
def gC(s:ByteArray)(p f r l:Int):Obj:=.cells #[.string s,.int .i64 p,.int .i64 f,.int .i64 r,.int .i64 l] 128 (0,0)
def jc(s:ByteArray)(p:Int)(bad:Bool):Obj:=.cells #[.string s,.int .i64 p,.bool bad] 124 (0,0)
section
variable {w : World} {b : Nat} {s : ByteArray} {p f r l : Int}
theorem eR(h:w.heap[b]? = some (gC s p f r l)):w.cell? ⟨b,0,none⟩=some (.string s)/\w.cell? ⟨b,1,none⟩=some (.int .i64 p)/\w.cell? ⟨b,2,none⟩=some (.int .i64 f)/\w.cell? ⟨b,3,none⟩=some (.int .i64 r)/\w.cell? ⟨b,4,none⟩=some (.int .i64 l):=by
 simp[World.cell?,h,gC]
theorem gU(h:w.heap[b]? = some (gC s p f r l)):w.frozen? ⟨b,1,none⟩=false/\w.frozen? ⟨b,2,none⟩=false/\w.frozen? ⟨b,3,none⟩=false/\w.frozen? ⟨b,4,none⟩=false:=by
 simp[World.frozen?,h,gC]
theorem sH(h:w.heap[b]? = some (gC s p f r l))(v:Int):(w.setCell ⟨b,1,none⟩ (.int .i64 v)).heap[b]? = some (gC s v f r l):=by
 simp[World.setCell,cn,h,gC]
theorem CD(h:w.heap[b]? = some (gC s p f r l))(v:Int):(w.setCell ⟨b,2,none⟩ (.int .i64 v)).heap[b]? = some (gC s p v r l):=by
 simp[World.setCell,cn,h,gC]
theorem sG(h:w.heap[b]? = some (gC s p f r l))(v:Int):(w.setCell ⟨b,3,none⟩ (.int .i64 v)).heap[b]? = some (gC s p f v l):=by
 simp[World.setCell,cn,h,gC]
theorem wY(h:w.heap[b]? = some (gC s p f r l))(v:Int):(w.setCell ⟨b,4,none⟩ (.int .i64 v)).heap[b]? = some (gC s p f r v):=by
 simp[World.setCell,cn,h,gC]
end
section
variable {w : World} {b : Nat} {s : ByteArray} {p : Int} {bad : Bool}
theorem fZ(h:w.heap[b]? = some (jc s p bad)):w.cell? ⟨b,0,none⟩=some (.string s)/\w.cell? ⟨b,1,none⟩=some (.int .i64 p)/\w.cell? ⟨b,2,none⟩=some (.bool bad):=by
 simp[World.cell?,h,jc]
theorem jI(h:w.heap[b]? = some (jc s p bad)):w.frozen? ⟨b,1,none⟩=false/\w.frozen? ⟨b,2,none⟩=false:=by
 simp[World.frozen?,h,jc]
theorem CC(h:w.heap[b]? = some (jc s p bad))(v:Int):(w.setCell ⟨b,1,none⟩ (.int .i64 v)).heap[b]? = some (jc s v bad):=by
 simp[World.setCell,cn,h,jc]
theorem wX(h:w.heap[b]? = some (jc s p bad))(v:Bool):(w.setCell ⟨b,2,none⟩ (.bool v)).heap[b]? = some (jc s p v):=by
 simp[World.setCell,cn,h,jc]
end
end
section
theorem ofInt64(a:Nat)(e:a<65536):(BitVec.ofInt 64 (a:Int)).toNat=a:=by
 rw[BitVec.ofInt_natCast,BitVec.toNat_ofNat];exact Nat.mod_eq_of_lt (by omega)
theorem zN(a b:Nat)(y:a<256)(u:b<256):bits .or .i64 ((a:Int)*256) (b:Int)=256*(a:Int)+(b:Int):=by
 have o:a*256 ||| b=256*a+b:=by
  have:=Nat.shiftLeft_add_eq_or_of_lt (i:=8) (b:=b) (by omega) a;rw[Nat.shiftLeft_eq,show(2:Nat) ^ 8=256 from rfl]at this;omega
 have e:((a:Int)*256)=((a*256:Nat):Int):=by omega
 rw[e];show IntKind.i64.wrap ((BitVec.ofInt 64 ((a*256:Nat):Int) ||| BitVec.ofInt 64 (b:Int)).toNat:Int)=_;rw[BitVec.toNat_or,ofInt64 (a*256) (by omega),ofInt64 b (by omega),o,bl,bd _ (by omega)];omega
theorem uR(b:Nat)(s:ByteArray)(p:Nat)(f r l:Int)(w:World)(h:w.heap[b]? = some (gC s p f r l))(i:s.size<=9223372036854775807)(y:p<=s.size)(o:s.size<p+2): Calls prog 216 #[.pointer (some ⟨b,0,none⟩)] w λe w'=>e=.returned (.bool false)/\∃n,w'=(w.drewN n).setCell ⟨b,1,none⟩ (.int .i64 s.size):=by
 obtain⟨c0,c1,_,_,_⟩:=eR h;obtain⟨u,_⟩:=gU h;go_in;go_wp2
 go_quiet (fail)
 go_wp2
 go_ret;exact⟨rfl,_,rfl⟩
theorem ym(b:Nat)(s:ByteArray)(p:Nat)(f r l:Int)(w:World)(h:w.heap[b]? = some (gC s p f r l))(hs:s.size<=9223372036854775807)(h1:p+2<=s.size)(h2:256*(s[p].toNat:Int)+(s[p+1].toNat:Int)<=l): Calls prog 216 #[.pointer (some ⟨b,0,none⟩)] w λe w'=>e=.returned (.bool true)/\∃n,w'=(w.drewN n).setCell ⟨b,1,none⟩ (.int .i64 (p+2)):=by
 obtain⟨c0,c1,_,_,c4⟩:=eR h;obtain⟨f1,_⟩:=gU h;have i:s[p].toNat<256:=eI _;have o:s[p+1].toNat<256:=eI _;have hp:p<s.size:=by omega
 have H:p+1<s.size:=by omega
 have a0:IntKind.i64.wrap ((p:Int)+1)=(p:Int)+1:=by rw[bl,bd _ (by omega)]
 have G:IntKind.i64.wrap (s[p].toNat:Int)=(s[p].toNat:Int):=by rw[bl,bd _ (by omega)]
 have Z:IntKind.i64.wrap ((s[p].toNat:Int)*256)=(s[p].toNat:Int)*256:=by rw[bl,bd _ (by omega)]
 have u:IntKind.i64.wrap (s[p+1].toNat:Int)=(s[p+1].toNat:Int):=by rw[bl,bd _ (by omega)]
 have Y:=zN s[p].toNat s[p+1].toNat i o;have W:((p:Int)+1).toNat=p+1:=by omega
 have J:(p:Int)+1<(s.size:Int):=by omega
 have y:(0:Int)<=(p:Int)+1:=by omega
 go_in;go_wp2
 go_quiet (fail)
 go_wp2
 go_quiet (fail)
 go_wp2
 go_ret;exact⟨rfl,_,rfl⟩
theorem AJ(b:Nat)(s:ByteArray)(p:Nat)(f r l:Int)(w:World)(h:w.heap[b]? = some (gC s p f r l))(hs:s.size<=9223372036854775807)(h1:p+2<=s.size)(h2:l<256*(s[p].toNat:Int)+(s[p+1].toNat:Int)): Calls prog 216 #[.pointer (some ⟨b,0,none⟩)] w λe w'=>e=.returned (.bool false)/\∃n,w'=w.drewN n:=by
 obtain⟨c0,c1,_,_,c4⟩:=eR h;have i:s[p].toNat<256:=eI _;have o:s[p+1].toNat<256:=eI _;have hp:p<s.size:=by omega
 have H:p+1<s.size:=by omega
 have a0:IntKind.i64.wrap ((p:Int)+1)=(p:Int)+1:=by rw[bl,bd _ (by omega)]
 have G:IntKind.i64.wrap (s[p].toNat:Int)=(s[p].toNat:Int):=by rw[bl,bd _ (by omega)]
 have Z:IntKind.i64.wrap ((s[p].toNat:Int)*256)=(s[p].toNat:Int)*256:=by rw[bl,bd _ (by omega)]
 have u:IntKind.i64.wrap (s[p+1].toNat:Int)=(s[p+1].toNat:Int):=by rw[bl,bd _ (by omega)]
 have Y:=zN s[p].toNat s[p+1].toNat i o;have W:((p:Int)+1).toNat=p+1:=by omega
 have J:(p:Int)+1<(s.size:Int):=by omega
 have y:(0:Int)<=(p:Int)+1:=by omega
 go_in;go_wp2
 go_quiet (fail)
 go_wp2
 go_quiet (fail)
 go_wp2
 go_ret;exact⟨rfl,_,World.drewN_drewN _ _ _⟩
theorem wV(b:Nat)(s:ByteArray)(p L:Nat)(f r l:Int)(w:World)(h:w.heap[b]? = some (gC s p f r l))(H:s.size<=maxLen)(J:p<=s.size)(W:l=L): Calls prog 216 #[.pointer (some ⟨b,0,none⟩)] w λe w'=>e=.returned (.bool (M.uQ s p L).2)/\w'.heap[b]? = some (gC s ((M.uQ s p L).1:Nat) f r l)/\w.grownBy w' (some b):=by
 have i:s.size<=9223372036854775807:=by unfold maxLen at H;omega
 by_cases o:s.size<p+2
 .have e:M.uQ s p L=(s.size,false):=by unfold M.uQ;rw[aj o]
  rw[e];refine(uR b s p f r l w h i J o).mono ?_;rintro e w' ⟨rfl,n,rfl⟩;exact⟨rfl,sH (w:=w.drewN n) h _,bp (db (ax _ _) _) (ag rfl) _⟩
 have G:=M.lF s p (by omega);have u:=M.lF s (p+1) (by omega);by_cases y:L<256*M.bt s p+M.bt s (p+1)
 .have e:M.uQ s p L=(p,false):=by unfold M.uQ;rw[aa o,aj y]
  rw[e];refine(AJ b s p f r l w h i (by omega) (by rw[<-G,<-u];omega)).mono ?_;rintro e w' ⟨rfl,n,rfl⟩;exact⟨rfl,h,db (ax _ _) _⟩
 have e:M.uQ s p L=(p+2,true):=by unfold M.uQ;rw[aa o,aa y]
 rw[e];refine(ym b s p f r l w h i (by omega) (by rw[<-G,<-u];omega)).mono ?_;rintro e w' ⟨rfl,n,rfl⟩;exact⟨rfl,sH (w:=w.drewN n) h _,bp (db (ax _ _) _) (ag rfl) _⟩
theorem xE(b:Nat)(s:ByteArray)(k R F:Nat)(p f r l i:Int)(w:World)(h:w.heap[b]? = some (gC s p f r l))(hr:r=R)(W:f=F)(J:1<=R)(h2:1<=F)(Y:R<=8)(h4:F<=8)(Z:i=k): Calls prog 217 #[.pointer (some ⟨b,0,none⟩),.int .u8 i] w λe w'=>e=.returned (.int .i64 (M.iQ R F k))/\w'=w:=by
 obtain⟨_,_,c2,c3,_⟩:=eR h;have H:(M.iQ R F k:Int)=if i=114 then r-1 else if i=102 then f-1 else if i=115 then 8 else if i=107 then 255 else 0:=by
  unfold M.iQ;repeat' split
  all_goals omega
 rw[H]
 by_cases y:i=114
 .subst y;go_in;go_wp2
  go_ret;exact⟨rfl,rfl⟩
 have q1:(i == 114)=false:=by simpa using y
 rw[aa y]
 by_cases G:i=102
 .subst G;go_in;go_wp2
  go_ret;exact⟨rfl,rfl⟩
 have q2:(i == 102)=false:=by simpa using G
 rw[aa G]
 by_cases u:i=115
 .subst u;go_in;go_wp2
  go_ret;exact⟨rfl,rfl⟩
 have q3:(i == 115)=false:=by simpa using u
 rw[aa u]
 by_cases o:i=107
 .subst o;go_in;go_wp2
  go_ret;exact⟨rfl,rfl⟩
 have q4:(i == 107)=false:=by simpa using o
 rw[aa o]
 go_in;go_wp2
 go_ret;exact⟨rfl,rfl⟩
theorem Lv(eb tb:Nat)(v:B.V)(R:World->Prop)(w:World)(H:∀w1,w.grownBy w1 none->Calls prog 175 #[P0 eb,P0 tb,vA v,.int .i64 2,.int .i64 v.2] w1 λe w'=>e=.returned (.tuple #[])/\R w'): Calls prog 121 #[P0 eb,P0 tb,vA v] w λe w'=>e=.returned (.tuple #[])/\R w':=by
 have J:=az H;obtain⟨y,W⟩:=v;go_in;go_wp2_with fail
 refine(ft (y,W) _).mono ?_;rintro e w1 ⟨rfl,i⟩;obtain⟨k0,_⟩:=bh i (a:=⟨w.heap.size,0,none⟩) (by simp);obtain⟨k1,_⟩:=bh i (a:=⟨w.heap.size,1,none⟩) (by simp);simp[go_sem]at k0 k1;have G:Hid (w.grownBy w1 none):=an (ah _ _ _) i;go_wp2_with fail
 refine(J.out w1 G.out).mono ?_;rintro e w2 ⟨rfl,o⟩;have u:=az o;go_wp2_with fail
 go_end0;exact⟨rfl,u.out⟩
theorem JH(eb tb why:Nat)(hw:why<=8)(R:World->Prop)(w:World)(H:∀w1,w.grownBy w1 none->Calls prog 175 #[P0 eb,P0 tb,vA (0,-(why:Int)),.int .i64 3,.int .i64 (why:Int)] w1 λe w'=>e=.returned (.tuple #[])/\R w'): Calls prog 187 #[P0 eb,P0 tb,.int .i64 why] w λe w'=>e=.returned (.tuple #[])/\R w':=by
 have u:=az H;have G:IntKind.i64.wrap (-(why:Int))=-(why:Int):=by simp[IntKind.wrap,IntKind.bits,IntKind.signed];omega
 go_in;go_wp2_with fail
 refine(fH _ _).mono ?_;rintro e w1 ⟨rfl,rfl⟩;go_wp2_with fail
 refine(u.out _ (ah _ _ _)).mono ?_;rintro e w2 ⟨rfl,i⟩;have o:=az i;go_wp2_with fail
 go_end0;exact⟨rfl,o.out⟩
theorem FH(eb tb xe xt:Nat)(v:B.V)(R:World->Prop)(w:World)(he:w.cell? ⟨xe,0,none⟩=some (P0 eb))(ht:w.cell? ⟨xt,0,none⟩=some (P0 tb))(le:xe<w.heap.size)(lt:xt<w.heap.size)(H:∀w1,w.grownBy w1 none->Calls prog 175 #[P0 eb,P0 tb,vA v,.int .i64 2,.int .i64 v.2] w1 λe w'=>e=.returned (.tuple #[])/\R w'): Calls prog 120 #[vA v,P0 xe,P0 xt] w λe w'=>e=.returned (.tuple #[])/\R w':=by
 have y:=az (Lv eb tb v R);have u:=az H;obtain⟨J,W⟩:=v;go_in;go_wp2_with fail
 refine(y.out _ (λw1 G=>u.out w1 (an (ah _ _ _) G))).mono ?_;rintro e w2 ⟨rfl,i⟩;have o:=az i;go_wp2_with fail
 go_end0;exact⟨rfl,o.out⟩
