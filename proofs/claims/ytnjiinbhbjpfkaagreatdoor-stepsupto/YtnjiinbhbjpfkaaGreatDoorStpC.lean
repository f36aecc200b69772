import Derived.Test.YtnjiinbhbjpfkaaGreatDoorStpB
set_option maxRecDepth 100000
set_option maxHeartbeats 0
set_option linter.all false
namespace Go.Proofs.YtnjiinbhbjpfkaaGreatDoor
open Go.RowKit Go.Proofs.Tryz
section
def Fr(w:World)(fb cb L nx rb nr:Nat)(back:Value)(R:Nat->B.V):Prop:=w.heap[fb]? = some (ij cb L nx rb nr back)/\Full w rb 149 (nr*2) (nr*2) (eC R)/\fb≠rb
theorem Fr.kept{w w':World}{fb cb L nx rb nr:Nat}{back:Value}{R:Nat->B.V}(h:Fr w fb cb L nx rb nr back R)(i:w.grownBy w' none):Fr w' fb cb L nx rb nr back R:=
 ⟨cm i h.1 (by intro e;cases e),h.2.1.block (i.block rb h.2.1.lt (by intro e;cases e)),h.2.2⟩
theorem FD{w w1:World}{J H u G W y o:Value}(Y:((w.alloc (.cells #[J,H,u,G,W,y,o] 186)).drew).grownBy w1 none): w1.cell? ⟨w.heap.size,0,none⟩=some J/\w1.cell? ⟨w.heap.size,1,none⟩=some H/\w1.cell? ⟨w.heap.size,2,none⟩=some u/\w1.cell? ⟨w.heap.size,3,none⟩=some G/\w1.cell? ⟨w.heap.size,4,none⟩=some W/\w1.cell? ⟨w.heap.size,5,none⟩=some y/\w1.cell? ⟨w.heap.size,6,none⟩=some o/\w.heap.size<w1.heap.size:=by
 have i:=cm Y (show _ from bf w _) (by intro e;cases e);exact⟨by simp[World.cell?,i],by simp[World.cell?,i],by simp[World.cell?,i],by simp[World.cell?,i],by simp[World.cell?,i],by simp[World.cell?,i],by simp[World.cell?,i],bz i⟩
theorem EN(op a b c fb tb eb:Nat)(Y:b<256)(G:c<256)(w:World): Calls prog 84 #[dZ op a b c fb tb eb] w λe w'=>e=.returned (vA (0,B.wide b c))/\w.grownBy w' none:=by
 generalize o:B.wide b c=y;have u:Hid (B.wide b c=y):=o;go_in;go_wp2_with fail
 refine(xC op a b c Y G _).mono ?_;rw[u.out];rintro e w1 ⟨rfl,i⟩;have hz:=i.size;simp at hz;obtain⟨k0,k1⟩:=bh i (a:=⟨w.heap.size+1,0,none⟩) (by simp);obtain⟨k2,H⟩:=bh i (a:=⟨w.heap.size+1,1,none⟩) (by simp);simp[go_sem]at k0 k1 k2 H;have J:Hid (w.grownBy w1 none):=an (au (ah _ _ _) _) i;go_wp2_with fail
 refine(fH y _).mono ?_;rintro e w2 ⟨rfl,rfl⟩;have W:w.heap.size+1<w1.heap.size:=by omega
 go_wp2_with fail
 refine da (v:=vA (0,y)) (by simp[results,results84,go_sem,W,k0,k2]) rfl ⟨rfl,?_⟩;repeat (first|exact J.out|refine au ?_ _|refine bp ?_ (ab (by simp)) _)
theorem xJ(op a b c fb tb eb cb L nx rb nr vb:Nat)(back:Value)(R:Nat->B.V)(hb:b<256)(W:c<256)(Y:a<nr)(w:World)(J:Fr w fb cb L nx rb nr back R)(hv:w.cell? ⟨vb,0,none⟩=some (Fv 84 #[]))(Z:vb<w.heap.size): Calls prog 148 #[dZ op a b c fb tb eb,P0 vb] w λe w'=>e=.returned (.tuple #[])/\w.grownBy w' (some rb)/\Fr w' fb cb L nx rb nr back (B.set R a (0,B.wide b c)):=by
 have G:=az J;clear J;have hn:=EN op a b c fb tb eb hb W;generalize B.wide b c=y at *;have HN:Hid (∀w,Calls prog 84 #[dZ op a b c fb tb eb] w λe w'=>e=.returned (vA (0,y))/\w.grownBy w' none):=hn;clear hn;go_in;go_wp2_with fail
 go_region_with (first|(go_at_call 84;refine(HN.out _).mono ?_;rintro e w1 ⟨rfl,o⟩;obtain⟨s0,s1,s2,s3,s4,s5,s6,s7⟩:=FD o;have i:Hid (w.grownBy w1 none):=an (by repeat (first|exact ax _ _|refine bq ?_|refine au ?_ _)) o;clear o)|(go_at_call 149;refine(js op a b c fb tb eb cb L nx rb nr back R (0,y) w1 (G.out.kept i.out).1 (G.out.kept i.out).2.1 Y).mono ?_;rintro e w2 ⟨rfl,u,H⟩))
 all_goals
  go_wp2_with fail
  go_end0;refine⟨rfl,an (eD i.out) u,cm u (G.out.kept i.out).1 (by intro e;injection e with e;exact G.out.2.2 e),H,G.out.2.2⟩
theorem D2(op a b c fb tb eb cb L nx rb nr y vb:Nat)(back:Value)(R:Nat->B.V)(hb:b<256)(W:c<256)(ha:a<nr)(w:World)(J:Fr w fb cb L nx rb nr back R)(Y:y<w.heap.size)(hw:w.cell? ⟨y,0,none⟩=some (Fv 148 #[P0 vb]))(Z:w.cell? ⟨vb,0,none⟩=some (Fv 84 #[]))(G:vb<w.heap.size): Calls prog 163 #[dZ op a b c fb tb eb,P0 y] w λe w'=>e=.returned (.int .i64 0)/\w.grownBy w' (some rb)/\Fr w' fb cb L nx rb nr back (B.set R a (0,B.wide b c)):=by
 have KF:Hid (Fr w fb cb L nx rb nr back R):=J;go_in;go_wp2_with fail
 refine(xJ op a b c fb tb eb cb L nx rb nr vb back R hb W ha _ (KF.out.kept (ah _ _ _)) (by simp[go_sem,G,Z]) (by simp;omega)).mono ?_;rintro e w1 ⟨rfl,i,o⟩;have u:Hid (Fr w1 fb cb L nx rb nr back (B.set R a (0,B.wide b c))):=o;have H:Hid (w.grownBy w1 (some rb)):=an (ah _ _ _) i;go_wp2_with fail
 go_ret;exact⟨rfl,H.out,u.out⟩
theorem Tryz.rE:(prog.info? 149).map (λi=>(i.zero,i.size,i.bytes))=some (some (.agg #[.int .i64 0,.int .i64 0]),2,16):=by kernel_rfl
theorem Tryz.E8:(prog.info? 184).map (λi=>(i.zero,i.size,i.bytes))=some (some (.pointer none),1,8):=by kernel_rfl
abbrev lZ(op a b c fb tb eb:Nat):Obj:=.cells #[.int .u8 op,.int .u8 a,.int .u8 b,.int .u8 c,P0 fb,P0 tb,P0 eb] 186 (0,0)
theorem fk{w':World}{sb op a b c fb tb eb:Nat}(h:w'.heap[sb]? = some (lZ op a b c fb tb eb)):w'.cell? ⟨sb,0,none⟩=some (.int .u8 op)/\w'.cell? ⟨sb,1,none⟩=some (.int .u8 a)/\w'.cell? ⟨sb,2,none⟩=some (.int .u8 b)/\w'.cell? ⟨sb,3,none⟩=some (.int .u8 c)/\w'.cell? ⟨sb,4,none⟩=some (P0 fb)/\w'.cell? ⟨sb,5,none⟩=some (P0 tb)/\w'.cell? ⟨sb,6,none⟩=some (P0 eb):=by
 simp[World.cell?,h]
theorem jf(w:World)(op a b c fb tb eb:Nat):(w.alloc (.cells #[.int .u8 op,.int .u8 a,.int .u8 b,.int .u8 c,P0 fb,P0 tb,P0 eb] 186)).heap[w.heap.size]? = some (lZ op a b c fb tb eb):=bf w _
theorem dp{w w':World}(h:w.grownBy w' none){k:Nat}{o:Obj}(i:w.heap[k]? = some o):w'.heap[k]? = some o:=cm h i (by intro e;cases e)
theorem uu(x:Bool)(w:World):Calls prog 92 #[.bool x] w λe w'=>e=.returned (.int .i64 (if x=true then 1 else 0))/\w'=w:=by
 cases x
 .go_in;go_wp2_with fail
  go_ret;exact⟨rfl,rfl⟩
 go_in;go_wp2_with fail
 go_ret;exact⟨rfl,rfl⟩
theorem Lt(x y:B.V)(w:World):(binOp .eql 149 (vA x) (vA y)).run prog w=.ok (.bool (decide (x=y))) w:=by
 obtain⟨e,o⟩:=x;obtain⟨i,u⟩:=y;have G:((e:Int)=(i:Int))↔e=i:=by omega
 simp[go_sem];by_cases k1:e=i<;>by_cases k2:o=u<;>simp[k1,k2,G]
theorem Cp(op a b c fb tb eb cb L nx rb nr:Nat)(back:Value)(R:Nat->B.V)(hb:b<nr)(hc:c<nr)(w:World)(hF:Fr w fb cb L nx rb nr back R): Calls prog 93 #[dZ op a b c fb tb eb] w λe w'=>e=.returned (vA (0,if R b=R c then 1 else 0))/\w.grownBy w' none:=by
 have KF:=az hF;clear hF;have a2:=Lt (R b) (R c);have Y:(if decide (R b=R c)=true then(1:Int) else 0)=(if R b=R c then 1 else 0):=by by_cases h:R b=R c<;>simp[h]
 rw[<-Y];clear Y;generalize decide (R b=R c)=d at *;generalize hy:(if d=true then(1:Int) else 0)=y;have HY:=az hy;clear hy;go_in;go_wp2_with fail
 generalize hW:(w.alloc (.cells #[.int .u8 (op:Int),.int .u8 (a:Int),.int .u8 (b:Int),.int .u8 (c:Int),P0 fb,P0 tb,P0 eb] 186)).alloc (.cells #[.int .i64 0,.int .i64 0] 149)=w1;have G:Hid (w.grownBy w1 none):=by rw[<-hW];exact au (ah _ _ _) _
 have hx:w1.heap[w.heap.size]? = some (lZ op a b c fb tb eb):=by rw[<-hW,ak _ _ _ (by simp)];exact bf w _
 have hr:w1.heap[w.heap.size+1]? = some (.cells #[.int .i64 0,.int .i64 0] 149 (0,0)):=by
  rw[<-hW];have:=bf (w.alloc (.cells #[.int .u8 (op:Int),.int .u8 (a:Int),.int .u8 (b:Int),.int .u8 (c:Int),P0 fb,P0 tb,P0 eb] 186)) (.cells #[.int .i64 0,.int .i64 0] 149);simpa using this
 clear hW;have Z:=az hx;have HR:=az hr;clear hx hr;obtain⟨x0,x1,x2,x3,x4,x5,x6⟩:=fk Z.out;go_region_with (first
   | (go_at_call 86;refine(pO op a b c fb tb eb cb L nx rb nr back R w1.drew (KF.out.kept G.out).1 (KF.out.kept G.out).2.1 hb).mono ?_;rintro e w2 ⟨rfl,o⟩;have u:Hid (w1.grownBy w2 none):=⟨o.os,o.tape,o.output,o.size,o.block⟩;clear o;obtain⟨x0,x1,x2,x3,x4,x5,x6⟩:=fk (dp u.out Z.out))
   | (go_at_call 94;refine(qJ op a b c fb tb eb cb L nx rb nr back R w2 (KF.out.kept (an G.out u.out)).1 (KF.out.kept (an G.out u.out)).2.1 hc).mono ?_;rintro e H ⟨rfl,J⟩;have W:=az (an u.out J);clear J;have i:=dp W.out HR.out;have r0:H.cell? ⟨w.heap.size+1,0,none⟩=some (.int .i64 0):=(by simp[World.cell?,i]);have r1:H.cell? ⟨w.heap.size+1,1,none⟩=some (.int .i64 0):=(by simp[World.cell?,i]);have r2:H.frozen? ⟨w.heap.size+1,0,none⟩=false:=(by simp[World.frozen?,i]);have r3:H.frozen? ⟨w.heap.size+1,1,none⟩=false:=(by simp[World.frozen?,i]);have a0:=bz i;clear i)
   | (go_at_call 92;refine(uu d H).mono ?_;rw[HY.out];rintro e w4 ⟨rfl,rfl⟩)
   | (go_at_call 61;refine(fH y _).mono ?_;rintro e w5 ⟨rfl,rfl⟩))
 all_goals
  go_wp2_with fail
  refine da (v:=vA (0,y)) (by simp[results,results93,go_sem,a0,r0,r1]) rfl ⟨rfl,?_⟩;exact au (bp (bp (an G.out W.out) (ab (by simp)) _) (ab (by simp)) _) _
theorem I1(v:B.V)(g c n:Nat)(ad:Option Addr)(xs:List B.V)(w:World)(hn:n=xs.length)(aA:n<=1000000000)(a2:∀j x,xs[j]? = some x->ad=some ⟨g,0,none⟩/\w.cell? ⟨g,j*2,none⟩=some (.int .i64 (x.1:Int))/\w.cell? ⟨g,j*2+1,none⟩=some (.int .i64 x.2))(lg:xs≠[]->g<w.heap.size): Calls prog 231 #[.slice ad n c,vA v] w λe w'=>(∃z:Int,e=.returned (.int .i64 z)/\((z<0/\v∉xs)\/(0<=z/\v∈xs)))/\w.grownBy w' none:=by
 obtain⟨y,u⟩:=v;have HC:=az a2;have HN:=az hn;have HG:=az lg;clear a2 hn lg;go_in;go_wp2_with fail
 generalize W:w.alloc (.cells #[.int .i64 (y:Int),.int .i64 u] 149)=w1;have KG:Hid (w.grownBy w1 none):=by rw[<-W];exact ah _ _ _
 have a3:w1.heap[w.heap.size]? = some (.cells #[.int .i64 (y:Int),.int .i64 u] 149 (0,0)):=by rw[<-W];exact bf w _
 have HB:=az a3;go_loopw [8] (λi wr=>∃j:Nat,i=.int .i64 j/\j<=n/\Hid (∀k x,k<j->xs[k]? = some x->x≠(y,u))/\Hid (w1.grownBy wr none)) (λi _=>n-(intOf i).toNat)
 case atStart=>exact⟨0,rfl,by omega,(λk x hk=>ch hk (by omega)),ax _ _⟩
 case round=>
  obtain⟨j,rfl,hj,rN,rG⟩:=hrel;by_cases aC:j<n
  .obtain⟨x,hx⟩:∃x,xs[j]? = some x:=⟨_,bn (by have:=HN.out;omega)⟩;obtain⟨H,J⟩:=x;obtain⟨rfl,ca,cb⟩:=HC.out j (H,J) hx;have Y:=ed hx;have a4:=HG.out (by intro e;rw[e]at Y;cases Y);have Z:=an KG.out rG.out;have c0:wr.cell? ⟨g,j*2,none⟩=some (.int .i64 (H:Int)):=(bh Z (a:=⟨g,j*2,none⟩) a4).1.trans ca;have c1:wr.cell? ⟨g,j*2+1,none⟩=some (.int .i64 J):=(bh Z (a:=⟨g,j*2+1,none⟩) a4).1.trans cb;have a0:=cm rG.out HB.out (by intro e;cases e);have b0:wr.cell? ⟨w.heap.size,0,none⟩=some (.int .i64 (y:Int)):=by simp[World.cell?,a0]
   have b1:wr.cell? ⟨w.heap.size,1,none⟩=some (.int .i64 u):=by simp[World.cell?,a0]
   have a9:(j:Int)<(n:Int):=by omega
   have a1:∀w0,(binOp .eql 149 (vA (y,u)) (vA (H,J))).run prog w0=.ok (.bool (decide ((y,u)=(H,J)))) w0:=λw0=>Lt (y,u) (H,J) w0;have HX:=az hx;by_cases o:((y,u):B.V)=(H,J)
   .have hd:decide (((y,u):B.V)=(H,J))=true:=by simpa using o
    rw[hd]at a1;have HV:=az o;go_wp2_with fail
    go_quiet (fail)
    go_wp2_with fail
    go_ret;refine⟨⟨(j:Int),rfl,ab ⟨by omega,?_⟩⟩,an KG.out (db rG.out _)⟩;rw[HV.out];exact Y
   have hd:decide (((y,u):B.V)=(H,J))=false:=by simpa using o
   rw[hd]at a1;have HV:=az o;go_wp2_with fail
   go_quiet (fail)
   go_wp2_with fail
   have a7:Hid (∀k x,k<j+1->xs[k]? = some x->x≠(y,u)):=λk x hk G e=>by
    by_cases a6:k=j
    .subst a6;rw[HX.out]at G;injection G with G;exact HV.out (by rw[G,e])
    exact rN.out k x (by omega) G e
   go_roundw
   case rel=>exact⟨j+1,by go_num,by omega,a7,db rG.out _⟩
   case measure=>simp[intOf];omega
  have a8:¬(j:Int)<(n:Int):=by omega
  go_wp2_with fail
  go_ret;refine⟨⟨-1,rfl,ag ⟨by omega,λhm=>?_⟩⟩,an KG.out rG.out⟩;obtain⟨k,hk⟩:=List.getElem?_of_mem hm;have aB:=(bu.1 hk).1;exact rN.out k _ (by have:=HN.out;omega) hk rfl
theorem uK(v:B.V)(g c n:Nat)(ad:Option Addr)(xs:List B.V)(w:World)(hn:n=xs.length)(Y:n<=1000000000)(y:∀j x,xs[j]? = some x->ad=some ⟨g,0,none⟩/\w.cell? ⟨g,j*2,none⟩=some (.int .i64 (x.1:Int))/\w.cell? ⟨g,j*2+1,none⟩=some (.int .i64 x.2))(lg:xs≠[]->g<w.heap.size): Calls prog 224 #[.slice ad n c,vA v] w λe w'=>e=.returned (.bool (decide (v∈xs)))/\w.grownBy w' none:=by
 have HI:Hid (∀w1,w.grownBy w1 none->Calls prog 231 #[.slice ad n c,vA v] w1 λe w'=>(∃z:Int,e=.returned (.int .i64 z)/\((z<0/\v∉xs)\/(0<=z/\v∈xs)))/\w1.grownBy w' none):=λw1 i=>by
  refine I1 v g c n ad xs w1 hn Y (λj x hx=>?_) (λh=>dm (lg h) i.size);obtain⟨a1,a2,a3⟩:=y j x hx;have u:=ed hx;have J:=lg (by intro e;rw[e]at u;cases u);exact⟨a1,(bh i (a:=⟨g,j*2,none⟩) J).1.trans a2,(bh i (a:=⟨g,j*2+1,none⟩) J).1.trans a3⟩
 clear y lg hn;obtain⟨v1,v2⟩:=v;go_in;go_wp2_with fail
 generalize o:w.alloc (.cells #[.int .i64 (v1:Int),.int .i64 v2] 149)=w1;have KG:Hid (w.grownBy w1 none):=by rw[<-o];exact ah _ _ _
 refine(HI.out w1 KG.out).mono ?_;rintro e w2 ⟨⟨z,rfl,hz⟩,i⟩;have G:=az (an KG.out i);rcases hz with⟨hz,H⟩|⟨hz,H⟩
 .have Z:=az H;have W:¬0<=z:=by omega
  go_wp2_with fail
  go_ret;exact⟨by simp[Z.out,W],G.out⟩
 have Z:=az H;go_wp2_with fail
 go_ret;exact⟨by simp[Z.out],G.out⟩
def fT(xs:List B.V):List Value:=xs.flatMap (λv=>[.int .i64 (v.1:Int),.int .i64 v.2])
theorem ui(x:B.V)(xs:List B.V):fT (x :: xs)=.int .i64 (x.1:Int) :: .int .i64 x.2 :: fT xs:=rfl
theorem jr:∀e,(fT e).length=e.length*2
 | []=>rfl
 | x :: e=>by rw[ui,List.length_cons,List.length_cons,jr e,List.length_cons];omega
theorem oY(xs ys:List B.V):fT (xs++ys)=fT xs++fT ys:=by simp[fT,List.flatMap_append]
theorem mJ:∀(xs:List B.V) (j:Nat) (x:B.V),xs[j]? = some x->(fT xs)[j*2]? = some (.int .i64 (x.1:Int))/\(fT xs)[j*2+1]? = some (.int .i64 x.2)
 | [],j,x,h=>by simp at h
 | y :: xs,0,x,h=>by
  simp at h;subst h
  exact⟨rfl,rfl⟩
 | y :: xs,j+1,x,h=>by
  have:=mJ xs j x (by simpa using h);rw[ui,show(j+1)*2=j*2+1+1 by omega];simpa using this
theorem zK{w:World}{o g n c:Nat}{xs:List B.V}(hb:o<=g)(hn:n<=c)(hm:c<=maxLen)(hl:xs.length=n)(Y:jB w g 149 (c*2))(hx:∀j x,xs[j]? = some x->w.cell? ⟨g,j*2,none⟩=some (.int .i64 (x.1:Int))/\w.cell? ⟨g,j*2+1,none⟩=some (.int .i64 x.2)):w.ownsRow o 149 2 (.slice (some ⟨g,0,none⟩) n c) n (fT xs):=by
 obtain⟨y,G,h2⟩:=Y;refine⟨by rw[jr,hl],ab ⟨g,c,y,rfl,hb,G,hn,hm,h2,?_⟩⟩;apply List.ext_getElem?
 intro i;by_cases hi:i<n*2
 .obtain⟨x,u⟩:∃x,xs[i / 2]? = some x:=⟨_,bn (by omega)⟩;obtain⟨H,J⟩:=hx (i / 2) x u;obtain⟨Z,W⟩:=mJ xs (i / 2) x u;rw[dh,aj hi];simp only[World.cell?,G]at H J;rcases(show i=i / 2*2\/i=i / 2*2+1 by omega) with e|e
  .rw[e,Z];simpa using H
  rw[e,W];simpa using J
 rw[cw (by simp;omega),cw (by rw[jr];omega)]
theorem ru{w:World}{e g n c:Nat}{xs:List B.V}(h:w.ownsRow e 149 2 (.slice (some ⟨g,0,none⟩) n c) n (fT xs)):e<=g/\n<=c/\c<=maxLen/\xs.length=n/\jB w g 149 (c*2)/\∀j x,xs[j]? = some x->w.cell? ⟨g,j*2,none⟩=some (.int .i64 (x.1:Int))/\w.cell? ⟨g,j*2+1,none⟩=some (.int .i64 x.2):=by
 rcases h with⟨hl,⟨h,_⟩|⟨g',c',i,J,h2,H,Z,Y,W,y⟩⟩
 .cases h
 cases J;rw[jr]at hl;refine⟨h2,Z,Y,by omega,⟨i,H,W⟩,λj x G=>?_⟩;have hj:=(bu.1 G).1;obtain⟨u,o⟩:=mJ xs j x G;rw[<-y,dh,aj (by omega)]at u;rw[<-y,dh,aj (by omega)]at o;simp only[World.cell?,H];exact⟨by simpa using u,by simpa using o⟩
def pk(c : Int) (n : Nat) : Nat := ((if c < 0 then -(c + 1) else c) % n).toNat
def Ie(bs:List Nat):List Value:=bs.map (λ(x:Nat)=>Value.int .u8 (x:Int))
theorem uv{α β:Type}(f:α->β):∀(xs:List α) (i:Nat),(xs.map f).eraseIdx i=(xs.eraseIdx i).map f
 | [],_=>rfl
 | _ :: _,0=>rfl
 | x :: xs,i+1=>by simp[uv f xs i]
theorem qt:∀(xs:List Nat) (x:Nat),xs.eraseIdx (xs.idxOf x)=xs.erase x
 | [],x=>rfl
 | y :: xs,x=>by
  rw[List.idxOf_cons,List.erase_cons];by_cases e:y=x
  .subst e;simp
  have i:(y == x)=false:=by simpa using e
  rw[i];simp[qt xs x]
structure Ln(w:World) (b o:Nat) (T:TypeId) (N:Nat) (E:Nat->Value) (ad:Option Addr) (n c:Nat) (xs:List Nat):Prop where
 hE:Full w b T N N E
 ho:o<N
 e:E o=.slice ad n c
 row:w.ownsRow 0 155 1 (.slice ad n c) n (xs.map P0)
 hn:n<=1000000000
theorem Ln.len{w:World}{b o:Nat}{T:TypeId}{N:Nat}{E:Nat->Value}{ad:Option Addr}{n c:Nat}{xs:List Nat}(h:Ln w b o T N E ad n c xs):xs.length=n:=by
 have:=h.row.1;simpa using this
theorem Cd(b o g c n tb N:Nat)(T:TypeId)(E Tk:Nat->Value)(xs:List Nat)(w:World)(H:Ln w b o T N E (some ⟨g,0,none⟩) n c xs)(hT:Full w tb 160 7 7 Tk)(Y:Tk 3=Pt b o)(hm:tb∈xs)(hX:∀x,x∈xs->jB w x 160 7)(nb:b≠tb)(ng:g≠b)(a0:g≠tb): Calls prog 133 #[P0 tb] w λe w'=>e=.returned (.tuple #[])/\Ln w' b o T N (ep E o (.slice (some ⟨g,0,none⟩) (n-1) c)) (some ⟨g,0,none⟩) (n-1) c (xs.erase tb)/\Full w' tb 160 7 7 (ep (ep Tk 3 (.pointer none)) 4 .nilFunc)/\dy (λk=>k=b\/k=tb\/k=g) w w':=by
 obtain⟨a3,aG⟩:=H.hE.cells o H.ho;obtain⟨c3,z3⟩:=hT.cells 3 (by omega);obtain⟨c4,z4⟩:=hT.cells 4 (by omega);rw[H.e]at a3;rw[Y]at c3;generalize Tk 4=y4 at c4;have le:=H.hE.lt;have lt:=hT.lt;have G:=H.len;have Z:xs.idxOf tb<n:=by rw[<-G];exact List.idxOf_lt_length_of_mem hm
 have a7:Hid (Calls prog 183 #[.slice (some ⟨g,0,none⟩) n c,P0 tb] w λe w'=>e=.returned (.int .i64 (xs.idxOf tb:Nat))/\w'=w):=
  Ck g c n tb xs w G.symm H.hn (λj x hx=>by
   have:=(iG H.row).2.2.2.2.2 j (P0 x) (by simp[hx]);exact this) hT.xV hX hm
 have a8:Hid (∀w1:World,w1.ownsRow 0 155 1 (.slice (some ⟨g,0,none⟩) n c) n (xs.map P0)->Calls prog 184 #[.slice (some ⟨g,0,none⟩) n c,.int .i64 ((xs.idxOf tb:Nat):Int),.int .i64 (((xs.idxOf tb:Nat):Int)+1)] w1 λe w'=>e=.returned (.slice (some ⟨g,0,none⟩) (n-1) c)/\w'.ownsRow 0 155 1 (.slice (some ⟨g,0,none⟩) (n-1) c) (n-1) ((xs.erase tb).map P0)/\w1.grownBy w' (some g)):=λw1 h1=>by
  refine(Cn g c n (xs.idxOf tb) 0 (xs.map P0) w1 h1 Z (λx hx=>?_) H.hn).mono ?_
  .obtain⟨y,_,rfl⟩:=ek.1 hx;rfl
  rintro e w' ⟨h2,h3,h4⟩;refine⟨h2,?_,h4⟩;rw[uv]at h3;rw[qt]at h3;exact h3
 have HL:=az H;have HT:Hid (Full w tb 160 7 7 Tk):=hT;have a4:=az Y;have a9:=az Z;generalize xs.idxOf tb=ix at *;clear H hT Y hm hX G Z;go_in;go_wp2_with fail
 refine a7.out.mono ?_;rintro e w1 ⟨rfl,rfl⟩;have aD:ix<=1000000000:=by have:=a9.out;have:=HL.out.hn;omega
 go_wp2_with fail
 have aJ:IntKind.i64.wrap ((ix:Int)+1)=(ix:Int)+1:=nS _ ⟨by omega,by omega⟩;go_region_with (first|(go_at_call 184;refine(a8.out w1.drew (dD HL.out.row (λ_ _=>rfl))).mono ?_;rintro e w2 ⟨rfl,a1,i⟩;have J:w1.grownBy w2 (some g):=⟨i.os,i.tape,i.output,i.size,i.block⟩;clear i;have a2:Hid (w2.ownsRow 0 155 1 (.slice (some ⟨g,0,none⟩) (n-1) c) (n-1) ((xs.erase tb).map P0)):=a1;have a6:Hid (w1.grownBy w2 (some g)):=J;have W:=az (HL.out.hE.kept J (λe=>ng e.symm));have u:Hid (Full w2 tb 160 7 7 Tk):=HT.out.kept J (λe=>a0 e.symm);obtain⟨a5,aF⟩:=W.out.cells o HL.out.ho;have aA:=a5.trans (by rw[HL.out.e]);have aE:w2.cell? ⟨tb,3,none⟩=some (Pt b o):=(u.out.cell 3 (by omega)).trans (by rw[a4.out]);clear a1 J))
 all_goals
  obtain⟨d4,e4⟩:=u.out.cells 4 (by omega);obtain⟨_,e3⟩:=u.out.cells 3 (by omega);generalize Tk 4=y4 at d4;have aC:¬b=tb:=nb;go_wp2_with fail
  go_end0;have g1:=a0;have g2:g≠b:=ng;refine⟨rfl,{ hE:=?_,ho:=HL.out.ho,e:=gf _ _ _,row:=dD a2.out (λk h=>?_),hn:=by have:=HL.out.hn;omega },?_,?_⟩
  .exact((W.out.ep o _).off nb).off nb
  .have:k=g:=by injection h with h;exact h.symm
   subst this;show((World.setCell _ _ _).setCell _ _).heap[k]? = _;rw[af _ _ _ _ g1,af _ _ _ _ g1,af _ _ _ _ g2]
  .exact((u.out.off (λe=>nb e.symm)).ep 3 _).ep 4 _
  exact bm (bm (bm (jg a6.out (ab (ab rfl))) (ag (ag rfl)) _) (ag (ab (ag rfl))) _) (ag (ab (ag rfl))) _
def Kc(w w':World)(b o:Nat)(T:TypeId)(N:Nat)(E Tk:Nat->Value)(ad:Option Addr)(n c tb:Nat)(xs:List Nat):Prop:=
 ∃g c',Ln w' b o T N (ep E o (.slice (some ⟨g,0,none⟩) (n+1) c')) (some ⟨g,0,none⟩) (n+1) c' (xs++[tb])/\Full w' tb 160 7 7 (ep (ep Tk 2 (.bool false)) 3 (Pt b o))/\dy (λk=>k=b\/k=tb\/(Value.slice ad n c).ownBlock=some k) w w'/\((Value.slice ad n c).ownBlock=some g\/w.heap.size<=g)
theorem E6(b o c n tb N:Nat)(T:TypeId)(ad:Option Addr)(E Tk:Nat->Value)(xs:List Nat)(R:World->Prop)(w:World)(nb:b≠tb)(nk:∀k,(Value.slice ad n c).ownBlock=some k->k≠b/\k≠tb)(aH:n<1000000000)(H:Calls prog 133 #[P0 tb] w λe w1=>e=.returned (.tuple #[])/\Ln w1 b o T N E ad n c xs/\Full w1 tb 160 7 7 Tk/\R w1): Calls prog 166 #[Pt b o,.int .i64 (n:Int),P0 tb] w λe w'=>e=.returned (.tuple #[])/\∃w1,R w1/\Kc w1 w' b o T N E Tk ad n c tb xs:=by
 have HH:=az H;have HK:=az nk;clear H nk;go_in;go_wp2_with fail
 refine HH.out.mono ?_;rintro e w1 ⟨rfl,hL,hT,hR⟩;obtain⟨a6,aD⟩:=hL.hE.cells o hL.ho;obtain⟨c2,z2⟩:=hT.cells 2 (by omega);obtain⟨c3,z3⟩:=hT.cells 3 (by omega);rw[hL.e]at a6;generalize Tk 2=y2 at c2;generalize Tk 3=y3 at c3;have le:=hL.hE.lt;have lt:=hT.lt;have W:=az hL;have HT:=az hT;have HR:=az hR;have aF:¬tb=b:=λe=>nb e.symm;clear hL hT hR;go_wp2_with fail
 generalize u:((w1.setCell ⟨tb,2,none⟩ (.bool false)).setCell ⟨tb,3,none⟩ (.pointer (some ⟨b,o,none⟩))).alloc (.cells #[P0 tb] 155)=w2;have a8:w2.heap.size=w1.heap.size+1:=by rw[<-u];simp[World.setCell]
 have y:∀k,k≠tb->k<w1.heap.size->w2.heap[k]? = w1.heap[k]?:=λk hk aC=>by
  rw[<-u,ak _ _ _ (by simp[World.setCell];exact aC),af _ _ _ _ hk,af _ _ _ _ hk]
 have J:Ln w2 b o T N E ad n c xs:={ hE:=W.out.hE.block (y b nb le),ho:=W.out.ho,e:=W.out.e,row:=dD W.out.row (λk hk=>y k (HK.out k hk).2 (dA W.out.row k hk).2.1),hn:=W.out.hn };have Y:Full w2 tb 160 7 7 (ep (ep Tk 2 (.bool false)) 3 (Pt b o)):=by
  rw[<-u];exact(((HT.out.ep 2 _).ep 3 _).block (ak _ _ _ (by simp[World.setCell];exact lt)))
 have a3:w2.cell? ⟨w1.heap.size,0,none⟩=some (P0 tb):=by
  rw[<-u];have:=bf ((w1.setCell ⟨tb,2,none⟩ (.bool false)).setCell ⟨tb,3,none⟩ (.pointer (some ⟨b,o,none⟩))) (.cells #[P0 tb] 155);simp only[World.setCell,Array.size_modify]at this;simp only[World.cell?,World.setCell];rw[this];rfl
 have a7:dy (λk=>k=b\/k=tb\/(Value.slice ad n c).ownBlock=some k) w1 w2:=by
  rw[<-u];exact gF (bm (bm (dk _ _) (ag (ab (ag rfl))) _) (ag (ab (ag rfl))) _) _
 refine(Co n 0 w1.heap.size (P0 tb) (xs.map P0) rfl w2 ad c J.row a3 (by omega) (by omega)).mono ?_;rintro e w3 ⟨g,c',rfl,a2,i,a0⟩;have G:=J.hE.block (i.block b J.hE.lt (λh=>(HK.out b h.symm).1 rfl));have a4:=Y.block (i.block tb Y.lt (λh=>(HK.out tb h.symm).2 rfl));have a5:=
  a7.trans (S1:=λk=>(Value.slice ad n c).ownBlock=some k) ⟨i.os,i.tape,i.output,i.size,λk hk hn=>i.block k hk (λe=>hn e.symm)⟩ (λk h _=>ab (ab h))
 have a1:g≠b/\g≠tb:=by
  rcases a0 with h|h
  .exact HK.out g h
  exact⟨by omega,by omega⟩
 obtain⟨aI,aG⟩:=G.cells o W.out.ho;have aB:=az G;have aA:=az a4;have aE:=az a5;have Z:=az (ay a1 (ay a0 a8));have a9:Hid (w3.ownsRow 0 155 1 (.slice (some ⟨g,0,none⟩) (n+1) c') (n+1) ((xs++[tb]).map P0)):=by
  show World.ownsRow _ _ _ _ _ _ _;simpa using a2
 clear u y J Y a3 a7 a2 i a0 G a4 a5 a1 a6 aD c2 z2 c3 z3;go_wp2_with fail
 go_end0;refine⟨rfl,w1,HR.out,g,c',{ hE:=aB.out.ep o _,ho:=W.out.ho,e:=gf _ _ _,row:=dD a9.out (λk h=>?_),hn:=by omega },aA.out.off (λe=>nb e.symm),bm aE.out (ag (ag rfl)) _,?_⟩
 .have:k=g:=by injection h with h;exact h.symm
  subst this;exact af _ _ _ _ Z.out.1.1
 rcases Z.out.2.1 with h|h
 .exact ag h
 exact ab (by omega)
theorem Jr(b o c n tb N:Nat)(T:TypeId)(ad:Option Addr)(E Tk:Nat->Value)(xs:List Nat)(R:World->Prop)(w:World)(G:b≠tb)(u:∀k,(Value.slice ad n c).ownBlock=some k->k≠b/\k≠tb)(i:n<1000000000)(W:w.cell? ⟨b,o,none⟩=some (.slice ad n c))(H:Calls prog 133 #[P0 tb] w λe w1=>e=.returned (.tuple #[])/\Ln w1 b o T N E ad n c xs/\Full w1 tb 160 7 7 Tk/\R w1): Calls prog 110 #[Pt b o,P0 tb] w λe w'=>e=.returned (.tuple #[])/\∃w1,R w1/\Kc w1 w' b o T N E Tk ad n c tb xs:=by
 have y:=az (E6 b o c n tb N T ad E Tk xs R w G u i H);go_in;go_wp2_with fail
 refine y.out.mono ?_;rintro e w1 ⟨rfl,h⟩;have J:=az h;go_wp2_with fail
 go_end0;exact⟨rfl,J.out⟩
theorem IG(op a b c fb tb eb sx cb L nx rb nr:Nat)(back:Value)(Q:Nat->B.V)(v:B.V)(R:World->Prop)(w:World)(hx:w.heap[sx]? = some (lZ op a b c fb tb eb))(hf:w.heap[fb]? = some (ij cb L nx rb nr back))(hr:Full w rb 149 (nr*2) (nr*2) (eC Q))(ha:a<nr)(le:eb<w.heap.size)(H:∀w1,w.grownBy w1 (some rb)->Full w1 rb 149 (nr*2) (nr*2) (eC (B.set Q a v))->Calls prog 110 #[Pt eb 32,P0 tb] w1 λe w2=>e=.returned (.tuple #[])/\R w2): Calls prog 207 #[vA v,P0 sx] w λe w'=>e=.returned (.tuple #[])/\R w':=by
 obtain⟨x0,x1,x2,x3,x4,x5,x6⟩:=fk hx;have lx:=bz hx
 have a0:sx≠rb:=by
  rintro rfl;obtain⟨cu,q,_⟩:=hr;have J:w.heap[sx]? = some (.cells #[.int .u8 (op:Int),.int .u8 (a:Int),.int .u8 (b:Int),.int .u8 (c:Int),P0 fb,P0 tb,P0 eb] 186 (0,0)):=hx;rw[q]at J;injection J with q2;injection q2 with _ q2 _;exact ch q2 (by decide)
 have HH:=az H;have HX:=az hx;have HF:=az hf;have HR:=az hr;clear H hx hf hr;obtain⟨v1,v2⟩:=v;go_in;go_wp2_with fail
 generalize hW:w.alloc (.cells #[.int .i64 (v1:Int),.int .i64 v2] 149)=w1;have Z:Hid (w.grownBy w1 none):=by rw[<-hW];exact ah _ _ _
 refine(js op a b c fb tb eb cb L nx rb nr back Q (v1,v2) w1 (dp Z.out HF.out) (HR.out.block (Z.out.block rb HR.out.lt (by intro e;cases e))) ha).mono ?_;rintro e w2 ⟨rfl,G,o⟩;have hG:=an (mQ Z.out rb) G;have i:=cm hG HX.out (by intro e;injection e with e;exact a0 e);obtain⟨y0,y1,y2,y3,y4,y5,y6⟩:=fk i;have HJ:Hid (∀W,w2.grownBy W none->Calls prog 110 #[Pt eb 32,P0 tb] W λe w'=>e=.returned (.tuple #[])/\R w'):=λW u=>HH.out W (an hG (mQ u rb)) (o.block (u.block rb o.lt (by intro e;cases e)));clear G o hG i hW x0 x1 x2 x3 x4 x5 x6;go_wp2_with fail
 go_region_with (go_at_call 110;refine(HJ.out w2.drew (bq (ax _ _))).mono ?_;rintro e w4 ⟨rfl,y⟩;have a1:=az y;clear y)
 all_goals
  go_wp2_with fail
  go_end0;exact⟨rfl,a1.out⟩
end
namespace B
structure Cy where
 m:Nat->Bool
 st:List Nat
 nx:Nat
structure Kd where
 on:Nat->Bool
 cy:Option Cy
 un:Nat
 fo:Nat
 cc:Nat
def EZ:Kd:=⟨λ_=>false,none,0,0,0⟩
def qO(on:Nat->Bool)(n:Nat)(v:V):Prop:=v.1=0\/(1<=v.1/\v.1<=n/\on v.1=true/\v.2=0)
def mark(m:Nat->Bool)(p:Nat):Nat->Bool:=λk=>if k=p then true else m k
theorem je(m:Nat->Bool)(p:Nat):mark m p p=true:=if_pos rfl
theorem fg(m:Nat->Bool)(p k:Nat)(h:k≠p):mark m p k=m k:=if_neg h
theorem jy{m:Nat->Bool}{k:Nat}(p:Nat)(h:m k=true):mark m p k=true:=by unfold mark;split<;>simp[h]
def free(m:Nat->Bool)(p:Nat):Nat->Bool:=λk=>if k=p then false else m k
theorem rK(m:Nat->Bool)(p:Nat):free m p p=false:=if_pos rfl
theorem xK(m:Nat->Bool)(p k:Nat)(h:k≠p):free m p k=m k:=if_neg h
theorem Fj{m:Nat->Bool}{p k:Nat}(h:free m p k=true):m k=true:=by unfold free at h;split at h<;>simp_all
def kX(m:Nat->Bool):Nat->Nat
 | 0=>0
 | n+1=>kX m n+if m (n+1)=true then 0 else 1
theorem pM(m:Nat->Bool)(p:Nat):∀n,n<p->kX (mark m p) n=kX m n
 | 0,_=>rfl
 | n+1,h=>by rw[kX,kX,pM m p n (by omega),fg m p _ (by omega)]
theorem xT(m:Nat->Bool)(p:Nat)(o:1<=p)(i:m p=false):∀n,p<=n->kX (mark m p) n+1=kX m n
 | 0,h=>by omega
 | n+1,h=>by
  by_cases e:p=n+1
  .subst e;rw[kX,kX,je,i,pM m (n+1) n (by omega)];simp
  rw[kX,kX,fg m p _ (by omega)];have:=xT m p o i n (by omega);omega
theorem vN:∀n,kX (λ_=>false) n=n
 | 0=>rfl
 | n+1=>by rw[kX,vN n];simp
def seen(m:Nat->Bool)(st:List Nat)(v:V):(Nat->Bool)×List Nat:=if v.1≠0/\m v.1=false then(mark m v.1,st++[v.1]) else(m,st)
def fY(m:Nat->Bool)(st:List Nat):List V->(Nat->Bool)×List Nat
 | []=>(m,st)
 | v :: r=>fY (seen m st v).1 (seen m st v).2 r
theorem oM(v:V):∀(l:List V) (m:Nat->Bool) (e:List Nat),fY m e (l++[v])=seen (fY m e l).1 (fY m e l).2 v
 | [],_,_=>rfl
 | u :: l,m,e=>by rw[List.cons_append,fY,oM v l];rfl
def iE(R:Nat->V)(nr:Nat):List V:=(List.range nr).map R
theorem AY(R:Nat->V)(j:Nat):iE R (j+1)=iE R j++[R j]:=by simp[iE,List.range_succ]
theorem kI{R:Nat->V}{nr:Nat}{v:V}:v∈iE R nr↔∃i,i<nr/\R i=v:=by simp[iE]
theorem Cm{m:Nat->Bool}{e:List Nat}{v:V}{n:Nat}(i:v.1≠0->v.1<=n):(seen m e v).2.length+kX (seen m e v).1 n=e.length+kX m n:=by
 unfold seen;split
 .rename_i h;have:=xT m v.1 (by omega) h.2 n (i h.1);simp;omega
 rfl
theorem me{n:Nat}:∀(l:List V) (m:Nat->Bool) (e:List Nat),(∀v,v∈l->v.1≠0->v.1<=n)->(fY m e l).2.length+kX (fY m e l).1 n=e.length+kX m n
 | [],_,_,_=>rfl
 | v :: l,m,e,h=>by
  rw[fY,me l _ _ (λu i=>h u (List.mem_cons_of_mem _ i))];exact Cm (h v (List.mem_cons_self ..))
theorem ri{m:Nat->Bool}{e:List Nat}{v:V}{k:Nat}(h:m k=true):(seen m e v).1 k=true:=by
 unfold seen;split
 .exact jy _ h
 exact h
theorem zx{m:Nat->Bool}{e:List Nat}{v:V}{k:Nat}(h:k∈e):k∈(seen m e v).2:=by
 unfold seen;split
 .simp[h]
 exact h
theorem uX{m:Nat->Bool}{e:List Nat}{v:V}(h:v.1≠0):(seen m e v).1 v.1=true:=by
 unfold seen;split
 .exact je _ _
 rename_i c
 cases hm:m v.1
 .exact absurd ⟨h,hm⟩ c
 exact hm
theorem sy{m:Nat->Bool}{u:List Nat}{v:V}{k:Nat}(h:(seen m u v).1 k=true)(o:m k=false):k∈(seen m u v).2/\k=v.1/\v.1≠0:=by
 unfold seen at *;split at h
 .rename_i c;rw[if_pos c];by_cases e:k=v.1
  .exact⟨by simp[e],e,c.1⟩
  simp only[fg m v.1 k e,o]at h;cases h
 have i:m k=true:=h;rw[o]at i;cases i
def D9(m:Nat->Bool)(st:List Nat)(rest:List V)(M:Nat->List V)(p:Nat):Prop:=
 ∀S:Nat->Prop,(∀k,m k=true->S k)->(∀k,k∈st->∀v,v∈M k->v.1≠0->S v.1)->(∀v,v∈rest->v.1≠0->S v.1)->(∀k,m k=false->S k->∀v,v∈M k->v.1≠0->S v.1)->S p
theorem DJ{m:Nat->Bool}{y:List Nat}{v:V}{rest:List V}{M:Nat->List V}{p:Nat}(h:D9 m y (v :: rest) M p):D9 (seen m y v).1 (seen m y v).2 rest M p:=by
 intro S G H W J;refine h S (λk i=>G k (ri i)) (λk i=>H k (zx i)) (λu e o=>?_) (λk i hS u e o=>?_)
 .rcases List.mem_cons.1 e with rfl|e
  .exact G _ (uX o)
  exact W u e o
 cases hm:(seen m y v).1 k
 .exact J k hm hS u e o
 exact H k (sy hm i).1 u e o
theorem qu{M:Nat->List V}{p:Nat}:∀(l:List V) (m:Nat->Bool) (e:List Nat),D9 m e l M p->D9 (fY m e l).1 (fY m e l).2 [] M p
 | [],_,_,h=>h
 | _ :: l,_,_,h=>qu l _ _ (DJ h)
theorem Fx{m:Nat->Bool}{u:List Nat}{q:Nat}{M:Nat->List V}{p:Nat}(h:D9 m (u++[q]) [] M p):D9 m u (M q) M p:=by
 intro S J H G y;refine h S J (λk e v i o=>?_) (λv i=>by simp at i) y;rcases List.mem_append.1 e with e|e
 .exact H k e v i o
 rw[List.mem_singleton.1 e]at i;exact G v i o
theorem Bu{nr:Nat}{s:St}{p:Nat}(h:Reach nr s p):D9 (λ_=>false) [] (iE s.2.1 nr) s.2.2 p:=by
 intro S _ _ u o;exact h S (λi hi y=>u _ (kI.2 ⟨i,hi,rfl⟩) y) (λk e=>o k rfl e)
theorem Ak{m:Nat->Bool}{M:Nat->List V}{p:Nat}(h:D9 m [] [] M p):m p=true:=
 h (λk=>m k=true) (λ_ h=>h) (λk i=>by simp at i) (λv o=>by simp at o) (λk u e=>by rw[u]at e;cases e)
theorem yF{l:List V}{i:Nat}{v u:V}(h:u∈l):u∈l.set i v\/u=l.getD i (0,0):=by
 obtain⟨j,o,rfl⟩:=List.getElem_of_mem h;by_cases e:i=j
 .right;subst e;rw[List.getD_eq_getElem?_getD,List.getElem?_eq_getElem o];rfl
 left
 have:(l.set i v)[j]? = some l[j]:=by rw[List.getElem?_set,if_neg e,List.getElem?_eq_getElem o]
 exact List.mem_of_getElem? this
theorem Fu{m:Nat->Bool}{H:List Nat}{M:Nat->List V}{p:Nat}(a i:Nat)(v:V)(h:D9 m H [] M p): D9 (seen m H ((M a).getD i (0,0))).1 (seen m H ((M a).getD i (0,0))).2 [] (lay M a ((M a).set i v)) p:=by
 intro S J Y _ h4;have y:∀k u,u∈M k->u∈lay M a ((M a).set i v) k\/u=(M a).getD i (0,0):=by
  intro k u y;by_cases e:k=a
  .subst e;rw[gl];exact yF y
  rw[fq _ _ _ _ e];exact Or.inl y
 refine h S (λk G=>J k (ri G)) (λk G u W o=>?_) (λv Z=>by simp at Z) (λk G hS u W o=>?_)
 .rcases y k u W with h|h
  .exact Y k (zx G) u h o
  subst h;exact J _ (uX o)
 rcases y k u W with h|h
 .cases hc:(seen m H ((M a).getD i (0,0))).1 k
  .exact h4 k hc hS u h o
  exact Y k (sy hc G).1 u h o
 subst h;exact J _ (uX o)
structure lR(on:Nat->Bool) (n:Nat) (M:Nat->List V) (c:Cy) (T:Nat->Prop):Prop where
 ha:∀p,T p->1<=p/\p<=n/\on p=true
 hb:∀p,T p->∀v,v∈M p->qO on n v/\(v.1≠0->T v.1)
 hc:∀p,c.m p=true->T p
 hd:∀p,p∈c.st->c.m p=true
 he:c.st.Nodup
 hf:∀p,T p->D9 c.m c.st [] M p
 hg:0<c.nx->c.st=[]
 hh:c.nx<=n
 hi:∀p,1<=p->p<=c.nx->on p=true->c.m p=true
theorem wR{m:Nat->Bool}{i:List Nat}{v:V}{T:Nat->Prop}(y:∀p,m p=true->T p)(o:∀p,p∈i->m p=true)(he:i.Nodup)(u:v.1≠0->T v.1): (∀p,(seen m i v).1 p=true->T p)/\(∀p,p∈(seen m i v).2->(seen m i v).1 p=true)/\(seen m i v).2.Nodup:=by
 refine⟨λp e=>?_,λp e=>?_,?_⟩
 .cases h:m p
  .obtain⟨_,rfl,J⟩:=sy e h;exact u J
  exact y p h
 .unfold seen at e ⊢;split at e
  .rename_i c;rw[if_pos c];rcases List.mem_append.1 e with e|e
   .exact jy _ (o p e)
   rw[List.mem_singleton.1 e];exact je _ _
  rename_i c;rw[if_neg c];exact o p e
 unfold seen;split
 .rename_i c;rw[List.nodup_append];refine⟨he,by simp,λa G b H=>?_⟩;rw[List.mem_singleton.1 H];rintro rfl;have:=o _ G;rw[c.2]at this;cases this
 exact he
theorem pY{T:Nat->Prop}:∀(l:List V) (m:Nat->Bool) (e:List Nat),(∀p,m p=true->T p)->(∀p,p∈e->m p=true)->e.Nodup->(∀v,v∈l->v.1≠0->T v.1) -> (∀p,(fY m e l).1 p=true->T p)/\(∀p,p∈(fY m e l).2->(fY m e l).1 p=true)/\(fY m e l).2.Nodup
 | [],_,_,h1,h2,h3,_=>⟨h1,h2,h3⟩
 | v :: l,m,e,h1,h2,h3,h4=>by
  obtain⟨a,b,c⟩:=wR h1 h2 h3 (h4 v (List.mem_cons_self ..));exact pY l _ _ a b c (λu i=>h4 u (List.mem_cons_of_mem _ i))
theorem wS:∀(l:List V) {m:Nat->Bool} {e:List Nat} {k:Nat},m k=true->(fY m e l).1 k=true
 | [],_,_,_,h=>h
 | _ :: l,_,_,_,h=>wS l (ri h)
def AI(M:Nat->List V)(c:Cy)(st:List Nat)(p:Nat):Cy:=⟨(fY c.m st (M p)).1,(fY c.m st (M p)).2,c.nx⟩
def look(c:Cy):Cy:=⟨c.m,c.st,c.nx+1⟩
def kh(on:Nat->Bool)(c:Cy):Nat->Bool:=if c.m (c.nx+1)=true then on else free on (c.nx+1)
theorem iS{on:Nat->Bool}{c:Cy}{p:Nat}(h:kh on c p=true):on p=true:=by
 unfold kh at h;split at h
 .exact h
 exact Fj h
theorem zo{on:Nat->Bool}{c:Cy}{p:Nat}(h:c.m p=true):kh on c p=on p:=by
 unfold kh;split
 .rfl
 rename_i e;refine xK _ _ _ ?_;rintro rfl;exact e h
theorem Cc{on:Nat->Bool}{c:Cy}(h:kh on c (c.nx+1)=true):c.m (c.nx+1)=true:=by
 unfold kh at h;split at h
 .assumption
 rw[rK]at h;cases h
section
variable {on : Nat → Bool} {n : Nat} {M : Nat → List V} {c : Cy} {T : Nat → Prop}
theorem lR.len(h:lR on n M c T):c.st.length<=n:=by
 have:=C4 c.st ((List.range n).map (· + 1)) h.he (λx e=>by
  rw[wz];have:=h.ha x (h.hc x (h.hd x e));exact⟨this.1,this.2.1⟩)
 simpa using this
theorem zR(m:Nat->Bool):∀n,(((List.range n).map (· + 1)).filter m).length+kX m n=n
 | 0=>rfl
 | n+1=>by
  have:=zR m n;rw[List.range_succ,List.map_append,List.filter_append,List.length_append,kX]
  cases h:m (n+1)<;>simp[h]<;>omega
theorem lR.sum(h:lR on n M c T):c.st.length+kX c.m n<=n:=by
 have i:=C4 c.st (((List.range n).map (· + 1)).filter c.m) h.he (λx e=>by
  rw[List.mem_filter,wz];have:=h.ha x (h.hc x (h.hd x e));exact⟨⟨this.1,this.2.1⟩,h.hd x e⟩)
 have:=zR c.m n;omega
theorem lR.AI{i:List Nat}{p:Nat}(h:lR on n M c T)(e:c.st=i++[p]):lR on n M (AI M c i p) T:=by
 have hn:=h.he;rw[e,List.nodup_append]at hn;obtain⟨a,b,d⟩:=pY (T:=T) (M p) c.m i h.hc (λk o=>h.hd k (by rw[e];simp[o])) hn.1 (λv y u=>(h.hb p (h.hc p (h.hd p (by rw[e];simp))) v y).2 u);refine⟨h.ha,h.hb,a,b,d,λk o=>?_,λu=>?_,h.hh,λk W J H=>?_⟩
 .have:=h.hf k o;rw[e]at this;exact qu (M p) c.m i (Fx this)
 .have:=h.hg u;rw[e]at this;simp at this
 have:=h.hi k W J H;exact wS _ this
theorem lR.look(h:lR on n M c T)(H:c.st=[])(hn:c.nx<n):lR (kh on c) n M (look c) T:=by
 have G:=λp i=>by
  have:=h.hf p i;rw[H]at this;exact Ak this
 have Y:∀v,qO on n v->(v.1≠0->T v.1)->qO (kh on c) n v:=by
  rintro v (o|⟨o,y,u,Z⟩) W
  .exact Or.inl o
  exact Or.inr ⟨o,y,by rw[zo (G _ (W (by omega)))];exact u,Z⟩
 refine⟨λp i=>?_,λp i v hm=>?_,h.hc,h.hd,h.he,h.hf,λ_=>H,hn,λp o y u=>?_⟩
 .obtain⟨a,b,d⟩:=h.ha p i;exact⟨a,b,by rw[zo (G p i)];exact d⟩
 .have:=h.hb p i v hm;exact⟨Y v this.1 this.2,this.2⟩
 by_cases e:p=c.nx+1
 .subst e;exact Cc u
 have J:p<=c.nx+1:=y;exact h.hi p o (by omega) (iS u)
theorem lR.last(h:lR on n M c T)(e:c.st=[])(p:Nat):c.m p=true↔T p:=
 ⟨h.hc p,λi=>by have:=h.hf p i;rw[e]at this;exact Ak this⟩
end
def begun(R:Nat->V)(nr:Nat):Cy:=⟨(fY (λ_=>false) [] (iE R nr)).1,(fY (λ_=>false) [] (iE R nr)).2,0⟩
structure iZ(kd:Kd) (nr n:Nat) (s:St):Prop where
 h1:∀i,i<nr->qO kd.on n (s.2.1 i)
 h2:∀p,Reach nr s p->∀v,v∈s.2.2 p->qO kd.on n v
 h3:∀c,kd.cy=some c->c.nx<n/\∃T,(∀p,Reach nr s p->T p)/\lR kd.on n s.2.2 c T
theorem kJ{kd:Kd}{nr n:Nat}{s:St}(h:iZ kd nr n s){p:Nat}(J:Reach nr s p):kd.on p=true/\1<=p/\p<=n:=by
 have:=J (λp=>Reach nr s p/\kd.on p=true/\1<=p/\p<=n) (λi hi o=>?_) (λk G v H o=>?_)
 .exact this.2
 .rcases h.h1 i hi with e|⟨e,y,u,_⟩
  .exact absurd e o
  exact⟨jj i hi o,u,e,y⟩
 rcases h.h2 k G.1 v H with e|⟨e,y,u,_⟩
 .exact absurd e o
 exact⟨iF G.1 H o,u,e,y⟩
theorem su{kd:Kd}{nr n:Nat}{s:St}(h:iZ kd nr n s):lR kd.on n s.2.2 (begun s.2.1 nr) (Reach nr s):=by
 obtain⟨a,b,d⟩:=pY (T:=Reach nr s) (iE s.2.1 nr) (λ_=>false) [] (λp h=>by cases h) (λp h=>by simp at h) (by simp) (λv u o=>by
  obtain⟨i,hi,rfl⟩:=kI.1 u;exact jj i hi o)
 refine⟨λp e=>?_,λp e v u=>⟨h.h2 p e v u,λo=>iF e u o⟩,a,b,d,λp e=>qu _ _ _ (Bu e),λo=>absurd o (Nat.lt_irrefl 0),Nat.zero_le _,λp H G=>by have y:p<=0:=G;omega⟩;have:=kJ h e;exact⟨this.2.1,this.2.2,this.1⟩
end B
namespace B
theorem qO.up{on e:Nat->Bool}{n:Nat}{v:V}(h:qO on n v)(i:∀k,on k=true->e k=true):qO e n v:=by
 rcases h with h|⟨G,y,u,o⟩
 .exact Or.inl h
 exact Or.inr ⟨G,y,i _ u,o⟩
theorem Dv{kd:Kd}{nr e n:Nat}{s s':St}(h:iZ kd nr n s)(y:s'.2.2=s.2.2)(u:∀p,Reach e s' p->Reach nr s p)(J:∀i,i<e->qO kd.on n (s'.2.1 i)):iZ kd e n s':=
 ⟨J,λp o v Z=>h.h2 p (u p o) v (by rw[<-y];exact Z),λc G=>by
  obtain⟨H,T,Y,W⟩:=h.h3 c G;exact⟨H,T,λp o=>Y p (u p o),by rw[y];exact W⟩⟩
theorem th{kd:Kd}{nr n:Nat}{s:St}(h:iZ kd nr n s){p:Nat}(e:Reach nr s p)(i:Nat):qO kd.on n ((s.2.2 p).getD i (0,0))/\(((s.2.2 p).getD i (0,0)).1≠0->Reach nr s ((s.2.2 p).getD i (0,0)).1):=by
 by_cases hi:i<(s.2.2 p).length
 .rw[List.getD_eq_getElem?_getD,List.getElem?_eq_getElem hi];exact⟨h.h2 p e _ (List.getElem_mem hi),λo=>iF e (List.getElem_mem hi) o⟩
 rw[List.getD_eq_getElem?_getD,List.getElem?_eq_none (by omega)];exact⟨Or.inl rfl,λh=>absurd rfl h⟩
def told(kd:Kd)(v:V):Kd:={ kd with cy:=kd.cy.map (λc=>⟨(seen c.m c.st v).1,(seen c.m c.st v).2,c.nx⟩) }
def laid(kd:Kd)(p:Nat):Kd:={ kd with on:=mark kd.on p,cy:=kd.cy.map (λc=>⟨mark c.m p,c.st,c.nx⟩) }
theorem pZ{nr:Nat}{s:St}{x p i:Nat}{v:V}(W:Reach nr s p)(J:v.1≠0->Reach nr s v.1){k:Nat}(H:Reach nr (x,s.2.1,lay s.2.2 p ((s.2.2 p).set i v)) k):Reach nr s k:=by
 refine H (Reach nr s) (λi hi y=>jj i hi y) (λj G u o y=>?_);by_cases e:j=p
 .subst e;simp only[gl]at o;rcases List.mem_or_eq_of_mem_set o with o|rfl
  .exact iF G o y
  exact J y
 simp only[fq _ _ _ _ e]at o;exact iF G o y
theorem Dw{kd:Kd}{nr n:Nat}{s:St}(h:iZ kd nr n s)(x p i:Nat)(v:V)(W:Reach nr s p)(hv:qO kd.on n v)(hr:v.1≠0->Reach nr s v.1): iZ (told kd ((s.2.2 p).getD i (0,0))) nr n (x,s.2.1,lay s.2.2 p ((s.2.2 p).set i v)):=by
 refine⟨h.h1,λk G u o=>?_,λc hc=>?_⟩
 .have Z:=pZ W hr G;by_cases e:k=p
  .subst e;simp only[gl]at o;rcases List.mem_or_eq_of_mem_set o with o|rfl
   .exact h.h2 k Z u o
   exact hv
  simp only[fq _ _ _ _ e]at o;exact h.h2 k Z u o
 have H:kd.cy.map (λc:Cy=>(⟨(seen c.m c.st ((s.2.2 p).getD i (0,0))).1,(seen c.m c.st ((s.2.2 p).getD i (0,0))).2,c.nx⟩:Cy))=some c:=hc;rw[Option.map_eq_some_iff]at H;obtain⟨c0,a0,rfl⟩:=H;obtain⟨hx,T,Y,y⟩:=h.h3 c0 a0;have a1:=Y p W;obtain⟨a,b,d⟩:=wR (v:=(s.2.2 p).getD i (0,0)) y.hc y.hd y.he (λh0=>Y _ ((th h W i).2 h0));refine⟨hx,T,λk G=>Y k (pZ W hr G),y.ha,λk G u o=>?_,a,b,d,λk G=>Fu p i v (y.hf k G),λh0=>?_,y.hh,λk h1 h2 h3=>ri (y.hi k h1 h2 h3)⟩
 .by_cases e:k=p
  .subst e;simp only[gl]at o;rcases List.mem_or_eq_of_mem_set o with o|rfl
   .exact y.hb k G u o
   exact⟨hv,λh0=>Y _ (hr h0)⟩
  simp only[fq _ _ _ _ e]at o;exact y.hb k G u o
 have J:=y.hg h0;show(seen c0.m c0.st ((s.2.2 p).getD i (0,0))).2=[];unfold seen;split
 .rename_i hn;have:=(y.last J _).2 (Y _ ((th h W i).2 hn.1));rw[hn.2]at this;cases this
 exact J
theorem yR{kd:Kd}{on:Nat->Bool}{nr n:Nat}{s:St}(h:iZ kd nr n s)(hm:∀p,Reach nr s p->on p=true):iZ ⟨on,none,kd.un,kd.fo+1,kd.cc⟩ nr n s:=by
 have e:∀v,qO kd.on n v->(v.1≠0->Reach nr s v.1)->qO on n v:=by
  intro v Y H;rcases Y with h|⟨W,h2,h3,Z⟩
  .exact Or.inl h
  exact Or.inr ⟨W,h2,hm _ (H (by omega)),Z⟩
 exact⟨λi hi=>e _ (h.h1 i hi) (λo=>jj i hi o),λk G u y=>e _ (h.h2 k G u y) (λo=>iF G y o),λc J=>by cases J⟩
def unit(M:Nat->List V)(on:Nat->Bool)(c:Cy):(Nat->Bool)×Cy:=
 match c.st.getLast? with
 | some p=>(on,AI M c c.st.dropLast p)
 | none=>(kh on c,look c)
theorem nU{M:Nat->List V}{on:Nat->Bool}{c:Cy}{e:List Nat}{p:Nat}(h:c.st=e++[p]):unit M on c=(on,AI M c e p):=by
 unfold unit;rw[h];simp
theorem nV{M:Nat->List V}{on:Nat->Bool}{c:Cy}(h:c.st=[]):unit M on c=(kh on c,look c):=by
 unfold unit;rw[h];rfl
def fI(M:Nat->List V)(n:Nat):Nat->Kd->Kd
 | 0,kd=>kd
 | u+1,kd=>
  match kd.cy with
  | none=>kd
  | some c=>fI M n u (if(unit M kd.on c).2.nx=n then⟨(unit M kd.on c).1,none,kd.un+1,kd.fo,kd.cc+1⟩ else⟨(unit M kd.on c).1,some (unit M kd.on c).2,kd.un+1,kd.fo,kd.cc⟩)
def work(R:Nat->V)(nr:Nat)(M:Nat->List V)(n u:Nat)(kd:Kd):Kd:=
 fI M n u (match kd.cy with|none=>{ kd with cy:=some (begun R nr) }|some _=>kd)
theorem uo{on:Nat->Bool}{n:Nat}{M:Nat->List V}{c:Cy}{T:Nat->Prop}(h:lR on n M c T)(hx:c.nx<n):lR (unit M on c).1 n M (unit M on c).2 T:=by
 rcases List.eq_nil_or_concat c.st with e|⟨i,p,e⟩
 .rw[nV e];exact h.look e hx
 rw[List.concat_eq_append]at e;rw[nU e];exact h.AI e
theorem mK{on:Nat->Bool}{M:Nat->List V}{c:Cy}{p:Nat}(h:(unit M on c).1 p=true):on p=true:=by
 rcases List.eq_nil_or_concat c.st with e|⟨i,q,e⟩
 .rw[nV e]at h;exact iS h
 rw[List.concat_eq_append]at e;rw[nU e]at h;exact h
theorem vB{kd kd':Kd}{nr n:Nat}{s:St}{T:Nat->Prop}(h:iZ kd nr n s)(J:∀p,Reach nr s p->T p)(ho:∀p,T p->kd'.on p=true)(H:∀c,kd'.cy=some c->c.nx<n/\lR kd'.on n s.2.2 c T):iZ kd' nr n s:=by
 have e:∀v,qO kd.on n v->(v.1≠0->Reach nr s v.1)->qO kd'.on n v:=by
  intro v Z W;rcases Z with h|⟨Y,h2,h3,h4⟩
  .exact Or.inl h
  exact Or.inr ⟨Y,h2,ho _ (J _ (W (by omega))),h4⟩
 exact⟨λi hi=>e _ (h.h1 i hi) (λo=>jj i hi o),λk G u y=>e _ (h.h2 k G u y) (λo=>iF G y o),λc h=>⟨(H c h).1,T,J,(H c h).2⟩⟩
theorem ti{kd:Kd}{nr n:Nat}{s:St}(h:iZ kd nr n s)(hn:1<=n):iZ { kd with cy:=some (begun s.2.1 nr) } nr n s:=
 vB (T:=Reach nr s) h (λ_ h=>h) (λ_ i=>(kJ h i).1) (λc e=>by
  have:begun s.2.1 nr=c:=by injection e
  subst this;exact⟨hn,su (kd:=kd) h⟩)
def ki(M:Nat->List V)(n:Nat)(kd:Kd)(c:Cy):Kd:=if(unit M kd.on c).2.nx=n then⟨(unit M kd.on c).1,none,kd.un+1,kd.fo,kd.cc+1⟩ else⟨(unit M kd.on c).1,some (unit M kd.on c).2,kd.un+1,kd.fo,kd.cc⟩
theorem qo{kd:Kd}{nr n:Nat}{s:St}{c:Cy}(h:iZ kd nr n s)(u:kd.cy=some c):iZ (ki s.2.2 n kd c) nr n s:=by
 obtain⟨J,T,G,W⟩:=h.h3 c u;have e:=uo W J;unfold ki;split
 .exact vB (T:=T) h G (λp o=>(e.ha p o).2.2) (λc u=>by cases u)
 rename_i y;refine vB (T:=T) h G (λp o=>(e.ha p o).2.2) (λH i=>?_);have:(unit s.2.2 kd.on c).2=H:=by injection i
 subst this;exact⟨Nat.lt_of_le_of_ne e.hh y,e⟩
theorem sh{M:Nat->List V}{n u:Nat}{kd:Kd}{c:Cy}(h:kd.cy=some c):fI M n (u+1) kd=fI M n u (ki M n kd c):=by
 rw[fI,h];rfl
theorem sj{M:Nat->List V}{n u:Nat}{kd:Kd}(h:kd.cy=none):fI M n u kd=kd:=by
 cases u with
 | zero=>rfl
 | succ u=>rw[fI,h]
end B
end Go.Proofs.YtnjiinbhbjpfkaaGreatDoor
