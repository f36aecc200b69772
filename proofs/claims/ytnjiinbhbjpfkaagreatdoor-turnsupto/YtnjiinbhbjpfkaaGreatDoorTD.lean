import Derived.Test.YtnjiinbhbjpfkaaGreatDoorTA
set_option maxRecDepth 100000
set_option maxHeartbeats 0
set_option linter.all false
namespace Go.Proofs.YtnjiinbhbjpfkaaGreatDoor
open Go.RowKit Go.Proofs.Tryz
section
variable {o:Oper}{w w':aa}{xs:List B.V}
abbrev ju(op a b c fb tb eb:Nat):Obj:=.cells #[.int .u8 op,.int .u8 a,.int .u8 b,.int .u8 c,P0 fb,P0 tb,P0 eb] 186 (0,0)
def eZ{sb op a b c fb tb eb:Nat}(h:w'.heap[sb]? = some (ju op a b c fb tb eb)):w'.cell? (ay sb 0)=some (dy op)/\w'.cell? (ay sb 1)=some (dy a)/\w'.cell? (ay sb 2)=some (dy b)/\w'.cell? (ay sb 3)=some (dy c)/\w'.cell? (ay sb 4)=some (P0 fb)/\w'.cell? (ay sb 5)=some (P0 tb)/\w'.cell? (ay sb 6)=some (P0 eb):=by
 simp[World.cell?,h]
def iN(w:aa)(op a b c fb tb eb:Nat):(w.alloc (.cells #[dy op,dy a,dy b,dy c,P0 fb,P0 tb,P0 eb] 186)).heap[w.heap.size]? = some (ju op a b c fb tb eb):=bl w _
def dv(h:w.grownBy w' none){k:Nat}{o:Obj}(i:w.heap[k]? = some o):w'.heap[k]? = some o:=da h i eR
def vP(x:Bool)(w:aa):Calls prog 92 #[.bool x] w λe w'=>e=.returned (.int .i64 (if x=true then 1 else 0))/\w'=w:=by
 cases x
 .go_in;go_wp2_with fail
  go_ret;simp_all
 go_in;go_wp2_with fail
 go_ret;simp_all
def NG(x y:B.V)(w:aa):(binOp .eql 149 (vA x) (vA y)).run prog w=.ok (.bool (decide (x=y))) w:=by
 obtain⟨e,o⟩:=x;obtain⟨i,u⟩:=y;have G:((e:Int)=i)↔e=i:=ag
 simp[go_sem];grind
def D5(op a b c fb tb eb cb L nx rb nr:Nat)(back:Value)(R:Nat->B.V)(hb:b<nr)(hc:c<nr)(w:aa)(hF:Fr w fb cb L nx rb nr back R): dD 93 #[ed op a b c fb tb eb] w (vA (0,if R b=R c then 1 else 0)) λw'=>w.grownBy w' none:=by
 have KF:=bj hF;clear hF;have a2:=NG (R b) (R c);have Y:(if decide (R b=R c)=true then(1:Int) else 0)=(if R b=R c then 1 else 0):=by by_cases h:R b=R c<;>simp[h]
 rw[<-Y];clear Y;generalize decide (R b=R c)=d at *;generalize hy:(if d=true then(1:Int) else 0)=y;have HY:=bj hy;clear hy;delta dD;go_in;go_wp2_with fail
 generalize hW:(w.alloc (.cells #[dy (op:Int),dy (a:Int),dy (b:Int),dy (c:Int),P0 fb,P0 tb,P0 eb] 186)).alloc (.cells #[aj 0,aj 0] 149)=w1;have G:Hid (w.grownBy w1 none):=by rw[<-hW];exact ax (ak _ _ _) _
 have hx:w1.heap[w.heap.size]? = some (ju op a b c fb tb eb):=by rw[<-hW,av _ _ _ eB];exact bl w _
 have hr:w1.heap[w.heap.size+1]? = some (.cells #[aj 0,aj 0] 149 (0,0)):=by
  rw[<-hW];have:=bl (w.alloc (.cells #[dy (op:Int),dy (a:Int),dy (b:Int),dy (c:Int),P0 fb,P0 tb,P0 eb] 186)) (.cells #[aj 0,aj 0] 149);simpa using this
 clear hW;have Z:=bj hx;have HR:=bj hr;clear hx hr;obtain⟨x0,x1,x2,x3,x4,x5,x6⟩:=eZ Z.out;go_region_with (first
   | (go_at_call 86;refine du (rz op a b c fb tb eb cb L nx rb nr back R w1.drew (KF.out.kept G.out).1 (KF.out.kept G.out).2.1 hb) λw2 o=>?_;have u:Hid (w1.grownBy w2 none):=⟨o.os,o.tape,o.output,o.size,o.block⟩;clear o;obtain⟨x0,x1,x2,x3,x4,x5,x6⟩:=eZ (dv u.out Z.out))
   | (go_at_call 94;refine du (sX op a b c fb tb eb cb L nx rb nr back R w2 (KF.out.kept (ar G.out u.out)).1 (KF.out.kept (ar G.out u.out)).2.1 hc) λH J=>?_;have W:=bj (ar u.out J);clear J;have i:=dv W.out HR.out;have r0:H.cell? (ay (w.heap.size+1) 0)=some (aj 0):=(by simp[World.cell?,i]);have r1:H.cell? (ay (w.heap.size+1) 1)=some (aj 0):=(by simp[World.cell?,i]);have r2:H.frozen? (ay (w.heap.size+1) 0)=false:=(by simp[World.frozen?,i]);have r3:H.frozen? (ay (w.heap.size+1) 1)=false:=(by simp[World.frozen?,i]);have a0:=ch i;clear i)
   | (go_at_call 92;refine(vP d H).mono ?_;rw[HY.out];rintro e w4 ⟨rfl,rfl⟩)
   | (go_at_call 61;refine du (fG y _) ?_;rintro w5 rfl))
 all_goals
  go_wp2_with fail
  refine dg (v:=vA (0,y)) (by simp[results,results93,go_sem,a0,r0,r1]) rfl ⟨rfl,?_⟩;exact ax (bu (bu (ar G.out W.out) (ah eB) _) (ah eB) _) _
def Ge(x y:Int)(w:aa):dD 89 #[aj x,aj y] w (aj (B.wrap (x-y))) λw'=>w'=w:=by
 have hw:IntKind.i64.wrap (x-y)=B.wrap (x-y):=by simp[IntKind.wrap,IntKind.bits,IntKind.signed,B.wrap];omega
 delta dD;go_in;go_wp2
 go_ret;simp_all
def FJ(op a b c fb tb eb cb L nx rb nr vb:Nat)(back:Value)(R:Nat->B.V)(ha:a<nr)(hb:b<nr)(hc:c<nr)(w:aa)(hF:Fr w fb cb L nx rb nr back R)(hv:w.heap[vb]? = some (.cells #[Fv 89 #[]] 190 (0,0))): Calls prog 151 #[ed op a b c fb tb eb,P0 vb] w λe w'=>(((R b).1=0/\(R c).1=0)/\e=.returned (aj 0)/\w.grownBy w' (some rb)/\Fr w' fb cb L nx rb nr back (B.set R a (0,B.wrap ((R b).2-(R c).2))))\/(¬((R b).1=0/\(R c).1=0)/\e=.returned (aj 1)/\w.grownBy w' none):=by
 have H:=bj hF;have HV:=bj hv;clear hF hv;go_in;go_wp2_with fail
 have a5:=bj (iN w op a b c fb tb eb);have G:=bj (ak w (.cells #[dy (op:Int),dy (a:Int),dy (b:Int),dy (c:Int),P0 fb,P0 tb,P0 eb] 186) none);refine(rz op a b c fb tb eb cb L nx rb nr back R _ (H.out.kept G.out).1 (H.out.kept G.out).2.1 hb).mono ?_;rintro e w1 ⟨rfl,a0⟩;have a6:=bj (ar G.out a0);have aA:=bj (dv a0 a5.out);clear a0 a5 G;go_wp2_with fail
 refine(gk (R b) _).mono ?_;rintro e w2 ⟨rfl,a2⟩;have o:=bj (ar a6.out a2);have u:=bj (dv a2 aA.out);clear a2 aA a6;obtain⟨x0,x1,x2,x3,x4,x5,x6⟩:=eZ u.out;go_wp2_with fail
 refine(sX op a b c fb tb eb cb L nx rb nr back R w2 (H.out.kept o.out).1 (H.out.kept o.out).2.1 hc).mono ?_;rintro e w3 ⟨rfl,Y⟩;have a7:=bj (ar o.out Y);have a8:=bj (dv Y u.out);clear Y u o x0 x1 x2 x3 x4 x5 x6;go_wp2_with fail
 refine(gk (R c) _).mono ?_;rintro e w4 ⟨rfl,a1⟩;have i:=bj (ar a7.out a1);have a4:=bj (dv a1 a8.out);clear a1 a8 a7;obtain⟨x0,x1,x2,x3,x4,x5,x6⟩:=eZ a4.out;have lx:=ch a4.out;have Z:=dv i.out HV.out;have v5:w4.cell? ⟨vb,0,none⟩=some (Fv 89 #[]):=fy Z
 clear Z;by_cases J:(R b).1=0
 .by_cases h2:(R c).1=0
  .have W:decide ((R b).1=0)=true:=gG J;have d2:decide ((R c).1=0)=true:=gG h2;simp only[W,d2];have HP:=bj (bh J h2);clear J h2 W d2;generalize a3:B.wrap ((R b).2-(R c).2)=y;have hs:=Ge (R b).2 (R c).2;rw[a3]at hs;have HS:=bj hs;have aC:=bj a3;clear hs a3;go_wp2_with fail
   go_region_with (first|(go_at_call 89;refine(HS.out _).mono ?_;rintro e w5 ⟨rfl,rfl⟩)|(go_at_call 61;refine(fG y _).mono ?_;rintro e w6 ⟨rfl,rfl⟩)|(go_at_call 149;refine(kH op a b c fb tb eb cb L nx rb nr back R (0,y) _ (H.out.kept (by repeat (first|exact i.out|refine bo ?_|refine ax ?_ _))).1 (H.out.kept (by repeat (first|exact i.out|refine bo ?_|refine ax ?_ _))).2.1 ha).mono ?_;rintro e w7 ⟨rfl,aB,a9⟩))
   all_goals
    have hg:w.grownBy w7 (some rb):=ar (by repeat (first|exact eT i.out|refine bo ?_|refine ax ?_ _)) aB;have HH:=bj (bh hg (bh (da hg H.out.1 (by intro e;injection e with e;exact H.out.2.2 e)) a9));clear hg aB a9;go_wp2_with fail
    go_ret;exact af ⟨HP.out,rfl,HH.out.1,HH.out.2.1,eV aC.out HH.out.2.2,H.out.2.2⟩
  have W:decide ((R b).1=0)=true:=gG J;have d2:decide ((R c).1=0)=false:=gG h2;simp only[W,d2];have HP:=bj (show ¬((R b).1=0/\(R c).1=0) from λh=>h2 h.2);clear J h2 W d2;go_wp2_with fail
  go_ret;exact ah ⟨HP.out,rfl,i.out⟩
 have W:decide ((R b).1=0)=false:=gG J;simp only[W];have HP:=bj (show ¬((R b).1=0/\(R c).1=0) from λh=>J h.1);clear J W;go_wp2_with fail
 go_ret;exact ah ⟨HP.out,rfl,i.out⟩
def Lp(v:B.V)(g c n:Nat)(ad:Option Addr)(xs:List B.V)(w:aa)(hn:n=xs.length)(aA:n<=1000000000)(a2:∀j x,xs[j]? = some x->ad=some (ay g 0)/\w.cell? (ay g (j*2))=some (aj x.1)/\w.cell? (ay g (j*2+1))=some (aj x.2))(lg:xs≠[]->g<w.heap.size): Calls prog 231 #[.slice ad n c,vA v] w λe w'=>(∃z:Int,e=.returned (aj z)/\((z<0/\v∉xs)\/(0<=z/\v∈xs)))/\w.grownBy w' none:=by
 obtain⟨y,u⟩:=v;change Hid _ at a2 hn lg;go_in;go_wp2_with fail
 generalize W:w.alloc (.cells #[aj y,aj u] 149)=w1;have KG:Hid (w.grownBy w1 none):=by rw[<-W];exact ak _ _ _
 have a3:w1.heap[w.heap.size]? = some (.cells #[aj y,aj u] 149 (0,0)):=by rw[<-W];exact bl w _
 have HB:=bj a3;go_loopw [8] (λi wr=>∃j:Nat,i=aj j/\j<=n/\Hid (∀k x,k<j->xs[k]? = some x->x≠(y,u))/\Hid (w1.grownBy wr none)) (λi _=>n-(intOf i).toNat)
 case atStart=>exact⟨0,rfl,ag,(λk x hk=>dp hk ag),aw _ _⟩
 case round=>
  obtain⟨j,rfl,hj,rN,rG⟩:=hrel;by_cases aC:j<n
  .obtain⟨x,hx⟩:∃x,xs[j]? = some x:=⟨_,bz (gp hn.out)⟩;obtain⟨H,J⟩:=x;obtain⟨rfl,ca,cb⟩:=a2 j (H,J) hx;have Y:=eh hx;have a4:=lg (by intro e;rw[e]at Y;cases Y);have Z:=ar KG rG;have c0:dS wr g (j*2)=some (aj H):=(bd Z (a:=ay g (j*2)) a4).1.trans ca;have c1:dS wr g (j*2+1)=some (aj J):=(bd Z (a:=ay g (j*2+1)) a4).1.trans cb;have a0:=da rG HB im;have b0:dS wr w.heap.size 0=some (aj y):=fy a0
   have b1:dS wr w.heap.size 1=some (aj u):=fy a0
   have a9:(j:Int)<n:=ag
   have a1:∀w0,(binOp .eql 149 (vA (y,u)) (vA (H,J))).run prog w0=.ok (.bool (decide ((y,u)=(H,J)))) w0:=λw0=>NG (y,u) (H,J) w0;have HX:=bj hx;by_cases o:((y,u):B.V)=(H,J)
   .have hd:decide (((y,u):B.V)=(H,J))=true:=gG o
    rw[hd]at a1;have HV:=bj o;go_wp2
    go_quiet (fail)
    go_wp2
    go_ret;refine⟨⟨(j:Int),rfl,ah ⟨ag,?_⟩⟩,ar KG (df rG _)⟩;rw[HV.out];exact Y
   have hd:decide (((y,u):B.V)=(H,J))=false:=gG o
   rw[hd]at a1;have HV:=bj o;go_wp2
   go_quiet (fail)
   go_wp2_with fail
   have a7:Hid (∀k x,k<j+1->xs[k]? = some x->x≠(y,u)):=λk x hk G e=>by
    by_cases a6:k=j
    .subst a6;rw[HX.out]at G;injection G with G;exact HV (by rw[G,e])
    exact rN k x ag G e
   go_roundw
   case rel=>exact⟨j+1,iA,ag,a7,df rG _⟩
   case measure=>simp[intOf];omega
  have a8:¬(j:Int)<n:=ag
  go_wp2
  go_ret;refine⟨⟨-1,rfl,af ⟨ag,λhm=>?_⟩⟩,ar KG rG⟩;obtain⟨k,hk⟩:=List.getElem?_of_mem hm;have aB:=(cf.1 hk).1;exact rN k _ (gp hn.out) hk rfl
def wz(v:B.V)(g c n:Nat)(ad:Option Addr)(xs:List B.V)(w:aa)(hn:n=xs.length)(Y:n<=1000000000)(y:∀j x,xs[j]? = some x->ad=some (ay g 0)/\w.cell? (ay g (j*2))=some (aj x.1)/\w.cell? (ay g (j*2+1))=some (aj x.2))(lg:xs≠[]->g<w.heap.size): dD 224 #[.slice ad n c,vA v] w (.bool (decide (v∈xs))) λw'=>w.grownBy w' none:=by
 have HI:Hid (∀w1,w.grownBy w1 none->Calls prog 231 #[.slice ad n c,vA v] w1 λe w'=>(∃z:Int,e=.returned (aj z)/\((z<0/\v∉xs)\/(0<=z/\v∈xs)))/\w1.grownBy w' none):=λw1 i=>by
  refine Lp v g c n ad xs w1 hn Y (λj x hx=>?_) (λh=>dm (lg h) i.size);obtain⟨a1,a2,a3⟩:=y j x hx;have u:=eh hx;have J:=lg (by intro e;rw[e]at u;cases u);exact⟨a1,(bd i (a:=ay g (j*2)) J).1.trans a2,(bd i (a:=ay g (j*2+1)) J).1.trans a3⟩
 clear y lg hn;obtain⟨v1,v2⟩:=v;delta dD;go_in;go_wp2_with fail
 generalize o:w.alloc (.cells #[aj v1,aj v2] 149)=w1;have KG:Hid (w.grownBy w1 none):=by rw[<-o];exact ak _ _ _
 refine(HI w1 KG).mono ?_;rintro e w2 ⟨⟨z,rfl,hz⟩,i⟩;have G:=bj (ar KG i);rcases hz with⟨hz,H⟩|⟨hz,H⟩
 .have Z:=bj H;have W:¬0<=z:=ag
  go_wp2
  go_ret;exact⟨by simp[Z.out,W],G⟩
 have Z:=bj H;go_wp2
 go_ret;exact⟨by simp[Z.out],G⟩
def gT(xs:List B.V):List Value:=xs.flatMap (λv=>[.int .i64 (v.1:Int),.int .i64 v.2])
def vI(x:B.V)(xs:List B.V):gT (x :: xs)=aj x.1 :: aj x.2 :: gT xs:=rfl
theorem kF:∀e,(gT e).length=e.length*2
 | []=>rfl
 | x :: e=>by rw[vI,List.length_cons,List.length_cons,kF e,List.length_cons];omega
theorem qH(xs ys:List B.V):gT (xs++ys)=gT xs++gT ys:=by simp[gT,List.flatMap_append]
theorem ou:∀(xs:List B.V) (j:Nat) (x:B.V),xs[j]? = some x->(gT xs)[j*2]? = some (aj x.1)/\(gT xs)[j*2+1]? = some (aj x.2)
 | [],j,x,h=>by simp at h
 | y :: xs,0,x,h=>by
  simp at h;subst h
  exact⟨rfl,rfl⟩
 | y :: xs,j+1,x,h=>by
  have:=ou xs j x (gG h);rw[vI,show(j+1)*2=j*2+1+1 by omega];simpa using this
def A4{o g n c:Nat}(hb:o<=g)(hn:n<=c)(hm:c<=maxLen)(hl:xs.length=n)(Y:jF w g 149 (c*2))(hx:∀j x,xs[j]? = some x->w.cell? (ay g (j*2))=some (aj x.1)/\w.cell? (ay g (j*2+1))=some (aj x.2)):w.ownsRow o 149 2 (dA g n c) n (gT xs):=by
 obtain⟨y,G,h2⟩:=Y;refine⟨by rw[kF,hl],ah ⟨g,c,y,rfl,hb,G,hn,hm,h2,?_⟩⟩;apply List.ext_getElem?
 intro i;by_cases hi:i<n*2
 .obtain⟨x,u⟩:∃x,xs[i / 2]? = some x:=⟨_,bz ag⟩;obtain⟨H,J⟩:=hx (i / 2) x u;obtain⟨Z,W⟩:=ou xs (i / 2) x u;rw[dO,bf hi];simp only[World.cell?,G]at H J;rcases(show i=i / 2*2\/i=i / 2*2+1 by omega) with e|e
  .rw[e,Z];simpa using H
  rw[e,W];simpa using J
 rw[dK fH,dK (kr kF)]
def qW{e g n c:Nat}(h:w.ownsRow e 149 2 (dA g n c) n (gT xs)):e<=g/\n<=c/\c<=maxLen/\xs.length=n/\jF w g 149 (c*2)/\∀j x,xs[j]? = some x->w.cell? (ay g (j*2))=some (aj x.1)/\w.cell? (ay g (j*2+1))=some (aj x.2):=by
 rcases h with⟨hl,⟨h,_⟩|⟨g',c',i,J,h2,H,Z,Y,W,y⟩⟩
 .cases h
 cases J;rw[kF]at hl;refine⟨h2,Z,Y,ag,⟨i,H,W⟩,λj x G=>?_⟩;have hj:=(cf.1 G).1;obtain⟨u,o⟩:=ou xs j x G;rw[<-y,dO,mm]at u;rw[<-y,dO,mm]at o;simp only[World.cell?,H];exact⟨gG u,gG o⟩
def lR(sz:Nat)(v v':Value):Prop:=v'.ownBlock=v.ownBlock\/∃g,v'.ownBlock=some g/\sz<=g
def vq{P:Program}(w:aa)(t ty e:TypeId)(i:TypeInfo)(z:Value)(size bytes:Nat)(ht:P.underlying t=some (.slice e))(hi:P.info? e=some i)(hz:i.zero=some z)(y:i.size=size)(a4:i.bytes=bytes)(a2:z.cells.size=size)(a5:0<size)(ao:Option Addr)(n cap:Nat)(xs:List Value)(a1:w.ownsRow 0 e size (.slice ao n cap) n xs)(ad:Addr)(m c:Nat)(o:List Value)(hl:o.length=m*size)(H:∀j u,o[j]? = some u->w.cell? (ad.add j)=some u)(h1:∀u∈o,u.oneCell'=true)(a3:n+m<=maxLen)(G:(n+m)*bytes<=140737488355328)(hm:0<m): ∃J w',(Builtin.append_ #[t,t] ty #[.slice ao n cap,.slice (some ad) m c]).run P w=.ok J w'/\w'.ownsRow 0 e size J (n+m) (xs++o)/\w.grownBy w' (Value.slice ao n cap).ownBlock/\lR w.heap.size (.slice ao n cap) J:=by
 have a0:∀(J:Value) (w':aa),w'.ownsRow w.heap.size e size J (n+m) (xs++o)->∃g,J.ownBlock=some g/\w.heap.size<=g:=λJ w' h=>by
  obtain⟨g,c',rfl⟩:=ee h ag;exact⟨g,rfl,(dP h g rfl).1⟩
 rcases id a1 with⟨a7,⟨hv,h0⟩|⟨g,c',a8,hv,_,h2,h3,h4,h5,h6⟩⟩
 .injection hv with e1 e2 e3;subst e1 e2 e3;obtain rfl:xs=[]:=List.eq_nil_of_length_eq_zero ag;obtain⟨J,w',W,r1,r2,_⟩:=run_append_own (P:=P) w w.heap.size t ty e i z size bytes ht hi hz y a4 a2 a5 (.slice none 0 0) 0 [] (eg w _ e size) ad m c o hl H h1 a3 G (bq _);exact⟨J,w',W,gV r1 (dk _),r2,ah (a0 J w' r1)⟩
 injection hv with e1 e2 e3;subst e1 e3;by_cases Y:n+m<=cap
 .obtain⟨J,w',hr,r1,r2,_⟩:=run_append_own (P:=P) w 0 t ty e i z size bytes ht hi hz y a4 a2 a5 _ n xs a1 ad m c o hl H h1 a3 G (dk _);refine⟨J,w',hr,r1,r2,af ?_⟩;subst y;have Z:=run_append_room (P:=P) w t ty e i ht hi g n cap a8 h2 ad m c o hl H h1 Y (by rw[hl,h5,<-Nat.add_mul];exact Nat.mul_le_mul_right _ Y);rw[hr]at Z;injection Z with Z _;rw[Z];rfl
 have a9:∀j u,xs[j]? = some u->w.cell? (((ay g 0):Addr).add j)=some u:=λj u hu=>by
  have hj:j<n*size:=by
   have:=(cf.1 hu).1;omega
  rw[<-h6,dO,bf hj]at hu;have a6:dS w g j=some u:=by
   simp only[World.cell?,h2];simpa using hu
  grind[Addr.add]
 obtain⟨J,w',W,r1,r2⟩:=run_append_arg_grows (P:=P) w t ty e i z size bytes ht hi hz y a4 a2 a5 (ay g 0) n cap xs a7 a9 ad m c o hl H ag a3 G;exact⟨J,w',W,gV r1 (dk _),mN r2 g,ah (a0 J w' r1)⟩
theorem qF{P:Program}(w:aa){a:Act}{K:Act->aa->Prop}{Q:Exit->Act->aa->Prop}(s x:Operand)(t:TypeId)(ho:o.op=.call { callee:=.builtin .append,args:=#[s,x],argTypes:=#[t,t] })(e:TypeId)(i:TypeInfo)(z:Value)(size bytes:Nat)(ht:P.underlying t=some (.slice e))(hi:P.info? e=some i)(hz:i.zero=some z)(H:i.size=size)(a0:i.bytes=bytes)(a1:z.cells.size=size)(a3:0<size)(Y:Option Addr)(n cap:Nat)(xs:List Value)(hs:a.eval s=.slice Y n cap)(W:w.ownsRow 0 e size (.slice Y n cap) n xs)(ad:Addr)(m c:Nat)(y:List Value)(hx:a.eval x=.slice (some ad) m c)(hl:y.length=m*size)(J:∀j u,y[j]? = some u->w.cell? (ad.add j)=some u)(h1:∀u∈y,u.oneCell'=true)(a2:n+m<=maxLen)(G:(n+m)*bytes<=140737488355328)(hm:0<m)(h:∀Z w',w'.ownsRow 0 e size Z (n+m) (xs++y)->w.grownBy w' (Value.slice Y n cap).ownBlock->lR w.heap.size (.slice Y n cap) Z->K (a.put o.dst Z) w'):Oper.wp P o a w K Q:=by
 obtain⟨Z,w',hr,h2,h3,h4⟩:=vq (P:=P) w t o.type e i z size bytes ht hi hz H a0 a1 a3 Y n cap xs W ad m c y hl J h1 a2 G hm;unfold Oper.wp execOp;simp only[ho,resolve,invoke,builtin,Sem.run_bind,Sem.run_pure,Result.andThen_ok,List.map_toArray,List.map_cons,List.map_nil,hs,hx,hr];exact h Z w' h2 h3 h4
def fD{P:Program}(w:aa){ops:Array Oper}{a:Act}{K:Act->aa->Prop}{Q:Exit->Act->aa->Prop}{E:Prop}(a0:o.guard=none)(s x:Operand)(t:TypeId)(ho:o.op=.call { callee:=.builtin .append,args:=#[s,x],argTypes:=#[t,t] })(e:TypeId)(i:TypeInfo)(z:Value)(size bytes:Nat)(ht:P.underlying t=some (.slice e))(hi:P.info? e=some i)(hz:i.zero=some z)(H:i.size=size)(Z:i.bytes=bytes)(a1:z.cells.size=size)(a3:0<size)(Y:Option Addr)(n cap:Nat)(xs:List Value)(hs:a.eval s=.slice Y n cap)(W:w.ownsRow 0 e size (.slice Y n cap) n xs)(ad:Addr)(m c:Nat)(y:List Value)(hx:a.eval x=.slice (some ad) m c)(hl:y.length=m*size)(J:∀j u,y[j]? = some u->w.cell? (ad.add j)=some u)(h1:∀u∈y,u.oneCell'=true)(a2:n+m<=maxLen)(G:(n+m)*bytes<=140737488355328)(hm:0<m)(h:∀v' w',w'.ownsRow 0 e size v' (n+m) (xs++y)->w.grownBy w' (Value.slice Y n cap).ownBlock->lR w.heap.size (.slice Y n cap) v'->K (a.put o.dst v') w'): if Region.wanted o (yielded ops a.tmps)=true then Oper.wp P o a w K Q else E:=by
 rw[bf (by simp[Region.wanted,a0])];grind[qF]
def jH{P:Program}{ops:Array Oper}{rest:List Oper}{a:Act}{Q:Exit->Act->aa->Prop}(a1:o.guard=none)(s x:Operand)(t:TypeId)(ho:o.op=.call { callee:=.builtin .append,args:=#[s,x],argTypes:=#[t,t] })(e:TypeId)(i:TypeInfo)(z:Value)(size bytes:Nat)(ht:P.underlying t=some (.slice e))(hi:P.info? e=some i)(hz:i.zero=some z)(H:i.size=size)(a0:i.bytes=bytes)(a2:z.cells.size=size)(a4:0<size)(Y:Option Addr)(n cap:Nat)(xs:List Value)(hs:a.eval s=.slice Y n cap)(W:w.ownsRow 0 e size (.slice Y n cap) n xs)(ad:Addr)(m c:Nat)(y:List Value)(hx:a.eval x=.slice (some ad) m c)(hl:y.length=m*size)(J:∀j u,y[j]? = some u->w.cell? (ad.add j)=some u)(h1:∀u∈y,u.oneCell'=true)(a3:n+m<=maxLen)(G:(n+m)*bytes<=140737488355328)(hm:0<m)(h:∀Z w',w'.ownsRow 0 e size Z (n+m) (xs++y)->w.grownBy w' (Value.slice Y n cap).ownBlock->lR w.heap.size (.slice Y n cap) Z->wpList P ops Q rest (a.put o.dst Z) w'):wpList P ops Q (o :: rest) a w:=
 wpList_plain a1 λ_ hK=>qF w s x t ho e i z size bytes ht hi hz H a0 a2 a4 Y n cap xs hs W ad m c y hx hl J h1 a3 G hm λZ w' h2 h3 h4=>hK _ _ (h Z w' h2 h3 h4)
def Lh(eb tb kind t:Nat)(x:Int)(ad:Option Addr)(n cap:Nat)(ev:List tU)(E Tk:Nat->Value)(w:aa)(Y:Full w eb 144 44 44 E)(G:E 43=.slice ad n cap)(hT:Full w tb 160 7 7 Tk)(W:Tk 0=aj t)(i:w.ownsRow 0 48 3 (.slice ad n cap) n (mA ev))(hn:n<=100000): eL 173 #[P0 eb,aj kind,P0 tb,aj x] w λw'=>∃g c,w'.ownsRow 0 48 3 (dA g (n+1) c) (n+1) (mA (ev++[(kind,t,x)]))/\Full w' eb 144 44 44 (eC E 43 (dA g (n+1) c))/\dM (λk=>k=eb\/(Value.slice ad n cap).ownBlock=some k) w w'/\((Value.slice ad n cap).ownBlock=some g\/w.heap.size<=g):=by
 obtain⟨i0,hi,a5,a2,a1⟩:=info_parts Tryz.Ao;obtain⟨a6,aB⟩:=Y.cells 43 ag;have c0:=hT.cell 0 ag;rw[G]at a6;rw[W]at c0;have le:=Y.lt;have HE:Hid (Full w eb 144 44 44 E):=Y;have HO:Hid (w.ownsRow 0 48 3 (.slice ad n cap) n (mA ev)):=i;have J:∀k,(Value.slice ad n cap).ownBlock=some k->k≠eb/\k<w.heap.size:=λk J=>⟨eU i Y ek k J,(dP i k J).2.1⟩;have HK:=bj J;clear Y hT i G W J;have hX:mA (ev++[(kind,t,x)])=mA ev++[aj kind,aj t,aj x]:=jx Hj
 rw[hX];clear hX;generalize mA ev=L at *;delta eL;go_in;go_wp2_with fail
 go_region_law (refine fD _ rfl (.tmp 12) (.tmp 20) 45 rfl 48 i0 _ 3 24 underlying45 hi a5 a2 a1 rfl ek ad n cap L mB (dQ HO (λk h=>av _ _ _ (HK k h).2)) (ay w.heap.size 0) 1 1 [aj kind,aj t,aj x] mB rfl (by intro j u o;match j,o with|0,o=>(simp at o;subst o;simp[Addr.add,go_sem])|1,o=>(simp at o;subst o;simp[Addr.add,go_sem])|2,o=>(simp at o;subst o;simp[Addr.add,go_sem])) xI pY ag ek ?_;intro v' w6 ho H a0;obtain⟨g,c,rfl⟩:=ee ho ag;have a4:Hid ((Value.slice ad n cap).ownBlock=some g\/w.heap.size<=g):=(by rcases a0 with h|⟨g',h,hl⟩;exact af h.symm;exact ah (by have e:g=g':=(by injection h);simp at hl;omega));clear a0;have Z:=bj ho;have y:Hid (Full w6 eb 144 44 44 E):=(HE.block (av _ _ _ le)).block (H.block eb fH (λh=>(HK eb h.symm).1 rfl));have a7:Hid (dM (λk=>k=eb\/(Value.slice ad n cap).ownBlock=some k) w w6):=dM.trans (S1:=λk=>(Value.slice ad n cap).ownBlock=some k) (gP (dw _ w) _) ⟨H.os,H.tape,H.output,H.size,λk J hn=>H.block k J (λe=>hn e.symm)⟩ (λk h _=>ah h);obtain⟨a3,a9⟩:=y.cells 43 ag;clear ho H)
 all_goals
  go_wp2_with fail
  go_end0;refine⟨rfl,g,c,dQ Z (λk h=>?_),y.eC 43 _,bp a7 (af (af rfl)) _,a4⟩;exact ab _ _ _ _ (eU Z y ek k h)
theorem vQ{α β:Type}(f:α->β):∀(xs:List α) (i:Nat),(xs.map f).eraseIdx i=(xs.eraseIdx i).map f
 | [],_=>rfl
 | _ :: _,0=>rfl
 | x :: xs,i+1=>by simp[vQ f xs i]
theorem sy:∀(xs:List Nat) (x:Nat),xs.eraseIdx (xs.idxOf x)=xs.erase x
 | [],x=>rfl
 | y :: xs,x=>by
  rw[List.idxOf_cons,List.erase_cons];by_cases e:y=x
  .grind
  have i:(y == x)=false:=gG e;rw[i];simp[sy xs x]
structure Ln(w:aa) (b o:Nat) (T:TypeId) (N:Nat) (E:Nat->Value) (ad:Option Addr) (n c:Nat) (xs:List Nat):Prop where
 hE:Full w b T N N E
 ho:o<N
 e:E o=.slice ad n c
 row:w.ownsRow 0 155 1 (.slice ad n c) n (xs.map P0)
 hn:n<=1000000000
def Ln.len{b o:Nat}{T:TypeId}{N:Nat}{E:Nat->Value}{ad:Option Addr}{n c:Nat}{xs:List Nat}(h:Ln w b o T N E ad n c xs):xs.length=n:=by
 have:=h.row.1;grind
def DJ(b o g c n tb N:Nat)(T:TypeId)(E Tk:Nat->Value)(xs:List Nat)(w:aa)(H:Ln w b o T N E (some (ay g 0)) n c xs)(hT:Full w tb 160 7 7 Tk)(Y:Tk 3=Pt b o)(hm:tb∈xs)(hX:∀x,x∈xs->jF w x 160 7)(nb:b≠tb)(ng:g≠b)(a0:g≠tb): eL 133 #[P0 tb] w λw'=>Ln w' b o T N (eC E o (dA g (n-1) c)) (some (ay g 0)) (n-1) c (xs.erase tb)/\Full w' tb 160 7 7 (eC (eC Tk 3 (.pointer none)) 4 .nilFunc)/\dM (λk=>k=b\/k=tb\/k=g) w w':=by
 obtain⟨a3,aG⟩:=H.hE.cells o H.ho;obtain⟨c3,z3⟩:=hT.cells 3 ag;obtain⟨c4,z4⟩:=hT.cells 4 ag;rw[H.e]at a3;rw[Y]at c3;generalize Tk 4=y4 at c4;have le:=H.hE.lt;have lt:=hT.lt;have G:=H.len;have Z:xs.idxOf tb<n:=by rw[<-G];exact List.idxOf_lt_length_of_mem hm
 have a7:Hid (dD 183 #[dA g n c,P0 tb] w (aj (xs.idxOf tb:Nat)) λw'=>w'=w):=
  DS g c n tb xs w G.symm H.hn (λj x hx=>by
   have:=(gZ H.row).2.2.2.2.2 j (P0 x) (by simp[hx]);exact this) hT.zq hX hm
 have a8:Hid (∀w1:aa,w1.ownsRow 0 155 1 (dA g n c) n (xs.map P0)->dD 184 #[dA g n c,aj ((xs.idxOf tb:Nat):Int),aj (((xs.idxOf tb:Nat):Int)+1)] w1 (dA g (n-1) c) λw'=>w'.ownsRow 0 155 1 (dA g (n-1) c) (n-1) ((xs.erase tb).map P0)/\w1.grownBy w' (some g)):=λw1 h1=>by
  refine(DW g c n (xs.idxOf tb) 0 (xs.map P0) w1 h1 Z (λx hx=>?_) H.hn).mono ?_
  .obtain⟨y,_,rfl⟩:=eK.1 hx;rfl
  rintro e w' ⟨h2,h3,h4⟩;refine⟨h2,?_,h4⟩;rw[vQ]at h3;rw[sy]at h3;exact h3
 change Hid _ at H Y Z;have HT:Hid (Full w tb 160 7 7 Tk):=hT;generalize xs.idxOf tb=ix at *;clear hT hm hX G;delta eL;go_in;go_wp2_with fail
 refine du a7 ?_;rintro w1 rfl;have aD:ix<=1000000000:=by have:=Z.out;have:=H.hn;omega
 go_wp2_with fail
 have aJ:IntKind.i64.wrap ((ix:Int)+1)=(ix:Int)+1:=jG _ ⟨ag,ag⟩;go_region_with (first|(go_at_call 184;refine du (a8 w1.drew (dQ H.row (λ_ _=>rfl))) ?_;rintro w2 ⟨a1,i⟩;have J:w1.grownBy w2 (some g):=⟨i.os,i.tape,i.output,i.size,i.block⟩;clear i;have a2:Hid (w2.ownsRow 0 155 1 (dA g (n-1) c) (n-1) ((xs.erase tb).map P0)):=a1;have a6:Hid (w1.grownBy w2 (some g)):=J;have W:=bj (H.hE.kept J (λe=>ng e.symm));have u:Hid (Full w2 tb 160 7 7 Tk):=HT.kept J (λe=>a0 e.symm);obtain⟨a5,aF⟩:=W.cells o H.ho;have aA:=a5.trans (by rw[H.e]);have aE:dS w2 tb 3=some (Pt b o):=(u.cell 3 ag).trans (by rw[Y.out]);clear a1 J))
 all_goals
  obtain⟨d4,e4⟩:=u.cells 4 ag;obtain⟨_,e3⟩:=u.cells 3 ag;generalize Tk 4=y4 at d4;have aC:¬b=tb:=nb;go_wp2
  go_end0;have g1:=a0;have g2:g≠b:=ng;refine⟨rfl,{ hE:=?_,ho:=H.ho,e:=gO _ _ _,row:=dQ a2 (λk h=>?_),hn:=by have:=H.hn;omega },?_,?_⟩
  .exact((W.eC o _).off nb).off nb
  .have:k=g:=by injection h with h;exact h.symm
   subst this;show((World.setCell _ _ _).setCell _ _).heap[k]? = _;rw[ab _ _ _ _ g1,ab _ _ _ _ g1,ab _ _ _ _ g2]
  .exact((u.off (λe=>nb e.symm)).eC 3 _).eC 4 _
  exact bp (bp (bp (jB a6 (ah (ah rfl))) (af (af rfl)) _) (af (ah (af rfl))) _) (af (ah (af rfl))) _
def MO(w w':aa)(b o:Nat)(T:TypeId)(N:Nat)(E Tk:Nat->Value)(ad:Option Addr)(n c tb:Nat)(xs:List Nat):Prop:=
 ∃g c',Ln w' b o T N (eC E o (.slice (some ⟨g,0,none⟩) (n+1) c')) (some ⟨g,0,none⟩) (n+1) c' (xs++[tb])/\Full w' tb 160 7 7 (eC (eC Tk 2 (.bool false)) 3 (Pt b o))/\dM (λk=>k=b\/k=tb\/(Value.slice ad n c).ownBlock=some k) w w'/\((Value.slice ad n c).ownBlock=some g\/w.heap.size<=g)
def Bl(b o c n tb N:Nat)(T:TypeId)(ad:Option Addr)(E Tk:Nat->Value)(xs:List Nat)(R:aa->Prop)(w:aa)(nb:b≠tb)(nk:∀k,(Value.slice ad n c).ownBlock=some k->k≠b/\k≠tb)(aH:n<1000000000)(H:eL 133 #[P0 tb] w λw1=>Ln w1 b o T N E ad n c xs/\Full w1 tb 160 7 7 Tk/\R w1): eL 166 #[Pt b o,aj (n:Int),P0 tb] w λw'=>∃w1,R w1/\MO w1 w' b o T N E Tk ad n c tb xs:=by
 have HH:=bj H;have HK:=bj nk;clear H nk;delta eL;go_in;go_wp2_with fail
 refine du HH ?_;rintro w1 ⟨hL,hT,hR⟩;obtain⟨a6,aD⟩:=hL.hE.cells o hL.ho;obtain⟨c2,z2⟩:=hT.cells 2 ag;obtain⟨c3,z3⟩:=hT.cells 3 ag;rw[hL.e]at a6;generalize Tk 2=y2 at c2;generalize Tk 3=y3 at c3;have le:=hL.hE.lt;have lt:=hT.lt;have W:=bj hL;have HT:=bj hT;have HR:=bj hR;have aF:¬tb=b:=λe=>nb e.symm;clear hL hT hR;go_wp2_with fail
 generalize u:((w1.setCell (ay tb 2) (.bool false)).setCell (ay tb 3) (.pointer (some (ay b o)))).alloc (.cells #[P0 tb] 155)=w2;have a8:w2.heap.size=w1.heap.size+1:=by rw[<-u];simp[World.setCell]
 have y:∀k,k≠tb->k<w1.heap.size->w2.heap[k]? = w1.heap[k]?:=λk hk aC=>by
  rw[<-u,av _ _ _ (by simp[World.setCell];exact aC),ab _ _ _ _ hk,ab _ _ _ _ hk]
 have J:Ln w2 b o T N E ad n c xs:={ hE:=W.out.hE.block (y b nb le),ho:=W.out.ho,e:=W.out.e,row:=dQ W.out.row (λk hk=>y k (HK.out k hk).2 (dP W.out.row k hk).2.1),hn:=W.out.hn };have Y:Full w2 tb 160 7 7 (eC (eC Tk 2 (.bool false)) 3 (Pt b o)):=by
  rw[<-u];exact(((HT.out.eC 2 _).eC 3 _).block (av _ _ _ (by simp[World.setCell];exact lt)))
 have a3:w2.cell? (ay w1.heap.size 0)=some (P0 tb):=by
  rw[<-u];have:=bl ((w1.setCell (ay tb 2) (.bool false)).setCell (ay tb 3) (.pointer (some (ay b o)))) (.cells #[P0 tb] 155);simp only[World.setCell,Array.size_modify]at this;simp only[World.cell?,World.setCell];rw[this];rfl
 have a7:dM (λk=>k=b\/k=tb\/(Value.slice ad n c).ownBlock=some k) w1 w2:=by
  rw[<-u];exact gP (bp (bp (dw _ _) (af (ah (af rfl))) _) (af (ah (af rfl))) _) _
 refine(D4 n 0 w1.heap.size (P0 tb) (xs.map P0) rfl w2 ad c J.row a3 ag ag).mono ?_;rintro e w3 ⟨g,c',rfl,a2,i,a0⟩;have G:=J.hE.block (i.block b J.hE.lt (λh=>(HK.out b h.symm).1 rfl));have a4:=Y.block (i.block tb Y.lt (λh=>(HK.out tb h.symm).2 rfl));have a5:=
  a7.trans (S1:=λk=>(Value.slice ad n c).ownBlock=some k) ⟨i.os,i.tape,i.output,i.size,λk hk hn=>i.block k hk (λe=>hn e.symm)⟩ (λk h _=>ah (ah h))
 have a1:g≠b/\g≠tb:=by
  rcases a0 with h|h
  .exact HK.out g h
  exact⟨ag,ag⟩
 obtain⟨aI,aG⟩:=G.cells o W.out.ho;have aB:=bj G;have aA:=bj a4;have aE:=bj a5;have Z:=bj (bh a1 (bh a0 a8));have a9:Hid (w3.ownsRow 0 155 1 (dA g (n+1) c') (n+1) ((xs++[tb]).map P0)):=by
  show World.ownsRow _ _ _ _ _ _ _;simpa using a2
 clear u y J Y a3 a7 a2 i a0 G a4 a5 a1 a6 aD c2 z2 c3 z3;go_wp2_with fail
 go_end0;refine⟨rfl,w1,HR.out,g,c',{ hE:=aB.out.eC o _,ho:=W.out.ho,e:=gO _ _ _,row:=dQ a9.out (λk h=>?_),hn:=by omega },aA.out.off (λe=>nb e.symm),bp aE.out (af (af rfl)) _,?_⟩
 .have:k=g:=by injection h with h;exact h.symm
  subst this;exact ab _ _ _ _ Z.out.1.1
 rcases Z.out.2.1 with h|h
 .exact af h
 exact ah ag
def LR(b o c n tb N:Nat)(T:TypeId)(ad:Option Addr)(E Tk:Nat->Value)(xs:List Nat)(R:aa->Prop)(w:aa)(G:b≠tb)(u:∀k,(Value.slice ad n c).ownBlock=some k->k≠b/\k≠tb)(i:n<1000000000)(W:w.cell? (ay b o)=some (.slice ad n c))(H:eL 133 #[P0 tb] w λw1=>Ln w1 b o T N E ad n c xs/\Full w1 tb 160 7 7 Tk/\R w1): eL 110 #[Pt b o,P0 tb] w λw'=>∃w1,R w1/\MO w1 w' b o T N E Tk ad n c tb xs:=by
 have y:=bj (Bl b o c n tb N T ad E Tk xs R w G u i H);delta eL;go_in;go_wp2_with fail
 refine du y λw1 h=>?_;have J:=bj h;go_wp2
 go_end0;exact⟨rfl,J⟩
def KY(op a b c fb tb eb W o:Nat)(Tk:Nat->Value)(R:aa->Prop)(w:aa)(H:∀w1,w.grownBy w1 none->w1.heap[w.heap.size]? = some (ju op a b c fb tb eb)->eL 110 #[Pt W o,P0 tb] w1 λw2=>Full w2 tb 160 7 7 Tk/\w2.heap[w.heap.size]? = some (ju op a b c fb tb eb)/\R w2): eL 171 #[ed op a b c fb tb eb,Pt W o] w λw'=>∃w2,R w2/\Full w2 tb 160 7 7 Tk/\w2.heap[w.heap.size]? = some (ju op a b c fb tb eb)/\w'=w2.setCell (ay tb 4) (Fv 207 #[P0 w.heap.size]):=by
 have HH:=bj H;delta eL;go_in;go_wp2_with fail
 refine du (HH _ (bj (ak w (.cells #[dy op,dy a,dy b,dy c,P0 fb,P0 tb,P0 eb] 186) none)).out (bj (iN w op a b c fb tb eb)).out) ?_;rintro w2 ⟨u,i,hR⟩;obtain⟨x0,x1,x2,x3,x4,x5,x6⟩:=eZ i;obtain⟨Y,z4⟩:=u.cells 4 ag;generalize Z:Tk 4=y4 at Y;have G:=bj (bh u (bh i hR));go_wp2
 go_end0;exact⟨rfl,w2,G.2.2,G.1,G.2.1,rfl⟩
def KM(op a b c fb tb eb sx cb L nx rb nr:Nat)(back:Value)(Q:Nat->B.V)(v:B.V)(R:aa->Prop)(w:aa)(hx:w.heap[sx]? = some (ju op a b c fb tb eb))(hf:w.heap[fb]? = some (jo cb L nx rb nr back))(hr:Full w rb 149 (nr*2) (nr*2) (eQ Q))(ha:a<nr)(le:eb<w.heap.size)(H:∀w1,w.grownBy w1 (some rb)->Full w1 rb 149 (nr*2) (nr*2) (eQ (B.set Q a v))->eL 110 #[Pt eb 32,P0 tb] w1 λw2=>R w2): eL 207 #[vA v,P0 sx] w λw'=>R w':=by
 obtain⟨x0,x1,x2,x3,x4,x5,x6⟩:=eZ hx;have lx:=ch hx
 have a0:sx≠rb:=by
  rintro rfl;obtain⟨cu,q,_⟩:=hr;have J:w.heap[sx]? = some (.cells #[dy (op:Int),dy (a:Int),dy (b:Int),dy (c:Int),P0 fb,P0 tb,P0 eb] 186 (0,0)):=hx;rw[q]at J;injection J with q2;injection q2 with _ q2 _;exact dp q2 ek
 have HH:=bj H;have HX:=bj hx;have HF:=bj hf;have HR:=bj hr;clear H hx hf hr;obtain⟨v1,v2⟩:=v;delta eL;go_in;go_wp2_with fail
 generalize hW:w.alloc (.cells #[aj (v1:Int),aj v2] 149)=w1;have Z:Hid (w.grownBy w1 none):=by rw[<-hW];exact ak _ _ _
 refine du (kH op a b c fb tb eb cb L nx rb nr back Q (v1,v2) w1 (dv Z.out HF.out) (HR.out.block (Z.out.block rb HR.out.lt im)) ha) ?_;rintro w2 ⟨G,o⟩;have hG:=ar (mN Z.out rb) G;have i:=da hG HX.out (by intro e;injection e with e;exact a0 e);obtain⟨y0,y1,y2,y3,y4,y5,y6⟩:=eZ i;have HJ:Hid (∀W,w2.grownBy W none->eL 110 #[Pt eb 32,P0 tb] W λw'=>R w'):=λW u=>HH.out W (ar hG (mN u rb)) (o.block (u.block rb o.lt im));clear G o hG i hW x0 x1 x2 x3 x4 x5 x6;go_wp2_with fail
 go_region_with (go_at_call 110;refine du (HJ.out w2.drew (bo (aw _ _))) λw4 y=>?_;have a1:=bj y;clear y)
 all_goals
  go_wp2_with fail
  go_end0;exact⟨rfl,a1.out⟩
def B.iJ(c t:Int):Int:=if t<=0 then c else if t<=9223372036854775807-c then c+t else 9223372036854775807
def B.xD{c t:Int}(e:0<=c)(i:c<=9223372036854775807):0<=B.iJ c t/\B.iJ c t<=9223372036854775807:=by
 unfold B.iJ;split
 .omega
 split<;>omega
def wD(eb:Nat)(c t:Int)(w:aa)(h:w.cell? ⟨eb,28,none⟩=some (.int .i64 c))(Z:0<=c)(Y:c<=9223372036854775807): Calls prog 64 #[P0 eb,.int .i64 t] w λe w'=>e=.returned (.int .i64 (B.iJ c t))/\w'=w:=by
 generalize J:B.iJ c t=y;have o:=bj J;have W:IntKind.i64.wrap (9223372036854775807-c)=9223372036854775807-c:=by simp[IntKind.wrap,IntKind.bits,IntKind.signed];omega
 by_cases ht:t<0
 .have i:y=c:=by rw[<-o.out];unfold B.iJ;rw[bf ag]
  subst i;have u:¬(9223372036854775807-y<0):=ag;go_in;go_wp2_with fail
  go_ret;exact⟨rfl,rfl⟩
 by_cases H:t<=9223372036854775807-c
 .have i:c+t=y:=by
   rw[<-o.out];unfold B.iJ
   by_cases h:t<=0
   .rw[bf h];omega
   rw[au h,bf H]
  have u:¬(9223372036854775807-c<t):=ag;have G:IntKind.i64.wrap (c+t)=c+t:=by simp[IntKind.wrap,IntKind.bits,IntKind.signed];omega
  go_in;go_wp2_with fail
  go_ret;exact⟨by rw[<-i];rfl,rfl⟩
 have i:c+(9223372036854775807-c)=y:=by
  rw[<-o.out];unfold B.iJ
  rw[au ag,au H];omega
 have u:9223372036854775807-c<t:=ag;go_in;go_wp2_with fail
 go_ret;exact⟨by rw[<-i];rfl,rfl⟩
def GO(op a b c fb tb eb:Nat)(x:Int)(w:aa)(h:w.cell? (ay eb 28)=some (aj x))(le:eb<w.heap.size): dD 117 #[ed op a b c fb tb eb] w (vA (0,x)) λw'=>w.grownBy w' none:=by
 have i:eb<w.heap.size+1:=ag;delta dD;go_in;go_wp2_with fail
 refine du (fG x _) ?_;rintro w2 rfl;go_wp2
 refine dg (v:=vA (0,x)) (by simp[results,results117,go_sem]) rfl ⟨rfl,?_⟩;repeat (first|exact aw _ _|refine ax ?_ _|refine bu ?_ (ah eB) _)
