import Derived.Test.YtnjiinbhbjpfkaaGreatDoorAB
set_option maxRecDepth 100000
set_option maxHeartbeats 0
set_option linter.all false
namespace Go.Proofs.YtnjiinbhbjpfkaaGreatDoor
open Go.RowKit Go.Proofs.Tryz
section
theorem En(b:Nat)(s:ByteArray)(f r l i hi:Int)(w:aa)(h:w.heap[b]?=some (jE s s.size f r l)):dC 81 #[.pointer<|some<|az b 0,ah i,ah hi] w (.tuple #[ah 0,.bool false]) λw'=>∃n,w'=w.drewN n:=by
 let⟨c0,c1,_,_,_⟩:=fF h;delta dC;go_in;go_wp2
 go_quiet (fail)
 go_wp2
 go_ret2
 exact⟨rfl,_,rfl⟩
theorem Em(b:Nat)(s:ByteArray)(p:Nat)(f r l i hi x:Int)(w:aa)(h:w.heap[b]?=some (jE s p f r l))(y:s.size<=maxLen)(W:p<s.size)(hx:Hid (x=(s[p].toNat:Int)))(u:i<=x)(H:x<=hi):dC 81 #[.pointer<|some<|az b 0,ah i,ah hi] w (.tuple #[ah x,.bool true]) λw'=>∃n,w'=(w.drewN n).setCell (az b 1) (ah<|p+1):=by
 unfold maxLen at y;obtain⟨c0,c1,_,_,_⟩:=fF h;obtain⟨J,_⟩:=jn h;have G:((p:Int) == (s.size:Int))=false:=fV
 have o:s[p].toNat<256:=fL _;rw[hx.out]at u H⊢;delta dC;go_in;go_wp2
 go_quiet (fail)
 go_wp2
 go_quiet (fail)
 go_wp2
 go_ret2
 exact⟨rfl,_,rfl⟩
theorem G7(b:Nat)(s:ByteArray)(p:Nat)(f r l i hi x:Int)(w:aa)(h:w.heap[b]?=some (jE s p f r l))(H:p<s.size)(hx:Hid (x=(s[p].toNat:Int)))(u:x<i\/hi<x):dC 81 #[.pointer<|some<|az b 0,ah i,ah hi] w (.tuple #[ah 0,.bool false]) λw'=>∃n,w'=w.drewN n:=by
 obtain⟨c0,c1,_,_,_⟩:=fF h;have y:((p:Int) == (s.size:Int))=false:=fV
 have o:s[p].toNat<256:=fL _;rw[hx.out]at u;by_cases G:(s[p].toNat:Int)<i
 all_goals
  delta dC;go_in;go_wp2
  go_quiet (fail)
  go_wp2
  go_quiet (fail)
  go_wp2
  go_ret2
  exact⟨rfl,_,rfl⟩
def lP(b:Nat)(s:ByteArray)(p L H:Nat)(f r l i hi:Int)(w:aa)(h:w.heap[b]?=some (jE s p f r l))(u:s.size<=maxLen)(y:i=L)(G:hi=H)(ht:M.tk s p L H=true):dC 81 #[.pointer<|some<|az b 0,ah i,ah hi] w (.tuple #[ah<|M.bt s p,.bool true]) λw'=>w'.heap[b]?=some (jE s ((p+1:Nat):Int) f r l)/\w.grownBy w' (some b):=by
 let⟨o,W,J⟩:=M.gZ ht;have e:=M.pc s p o;refine dq (Em b s p f r l i hi (M.bt s p) w h u o (by show _=_;rw[e]) af af) ?_;rintro w' ⟨n,rfl⟩;exact⟨rfl,uP (w:=w.drewN n) h _,bu (df (aw _ _) _) (ag rfl) _⟩
def pB(b:Nat)(s:ByteArray)(p L H:Nat)(f r l i hi:Int)(w:aa)(h:w.heap[b]?=some (jE s p f r l))(J:p<=s.size)(u:i=L)(y:hi=H)(ht:M.tk s p L H=false):dC 81 #[.pointer<|some<|az b 0,ah i,ah hi] w (.tuple #[ah 0,.bool false]) λw'=>w'.heap[b]?=some (jE s p f r l)/\w.grownBy w' (some b):=by
 by_cases o:p<s.size
 .have e:=M.pc s p o;have G:M.bt s p<L\/H<M.bt s p:=by simp[M.tk]at ht;omega
  refine dq (G7 b s p f r l i hi (M.bt s p) w h o (by show _=_;rw[e]) af) ?_;rintro w' ⟨n,rfl⟩;exact⟨rfl,h,df (aw _ _) _⟩
 obtain rfl:p=s.size:=by omega
 refine dq (En b s f r l i hi w h) ?_;rintro w' ⟨n,rfl⟩;exact⟨rfl,h,df (aw _ _) _⟩
theorem Ha(x y:Int)(w:aa):dC 89 #[ah x,ah y] w (ah<|B.wrap<|x-y) λw'=>w'=w:=by
 have hw:IntKind.i64.wrap (x-y)=B.wrap (x-y):=by simp[IntKind.wrap,IntKind.bits,IntKind.signed,B.wrap];omega
 delta dC;go_in;go_wp2
 go_ret;simp_all
theorem GJ(op a b c fb tb eb cb L nx rb nr vb:Nat)(back:Value)(R:Nat->B.V)(ha:a<nr)(hb:b<nr)(hc:c<nr)(w:aa)(hF:Fr w fb cb L nx rb nr back R)(hv:w.heap[vb]?=some (.cells #[Fv 89 #[]] 190 (0,0))):Calls prog 151 #[ee op a b c fb tb eb,P0 vb] w λe w'=>(((R b).1=0/\(R c).1=0)/\e=.returned (ah 0)/\w.grownBy w' (some rb)/\Fr w' fb cb L nx rb nr back (B.set R a (0,B.wrap<|(R b).2-(R c).2)))\/(¬((R b).1=0/\(R c).1=0)/\e=.returned (ah 1)/\w.grownBy w' none):=by
 have H:=bj hF;have HV:=bj hv;clear hF hv;go_in;go_wp2_with fail
 have a5:=bj<|iU w op a b c fb tb eb;have G:=bj<|aj w (.cells #[dz (op:Int),dz (a:Int),dz (b:Int),dz (c:Int),P0 fb,P0 tb,P0 eb] 186) none;refine dq (sA op a b c fb tb eb cb L nx rb nr back R _ (H.kept G).1 (H.kept G).2.1 hb) λw1 a0=>?_;have a6:=bj<|ar G a0;have aA:=bj<|dw a0 a5;clear a0 a5 G;go_wp2_with fail
 refine dq (gp (R b) _) λw2 a2=>?_;have o:=bj<|ar a6 a2;have u:=bj<|dw a2 aA;clear a2 aA a6;let⟨x0,x1,x2,x3,x4,x5,x6⟩:=fe u;go_wp2_with fail
 refine dq (tP op a b c fb tb eb cb L nx rb nr back R w2 (H.kept o).1 (H.kept o).2.1 hc) λw3 Y=>?_;have a7:=bj<|ar o Y;have a8:=bj<|dw Y u;clear Y u o x0 x1 x2 x3 x4 x5 x6;go_wp2_with fail
 refine dq (gp (R c) _) λw4 a1=>?_;have i:=bj<|ar a7 a1;have a4:=bj<|dw a1 a8;clear a1 a8 a7;let⟨x0,x1,x2,x3,x4,x5,x6⟩:=fe a4;have lx:=ch a4;have Z:=dw i HV;have v5:w4.cell? (az vb 0)=some (Fv 89 #[]):=fj Z
 clear Z;by_cases J:(R b).1=0
 .by_cases h2:(R c).1=0
  .have W:decide ((R b).1=0)=true:=iE J
   have d2:decide ((R c).1=0)=true:=iE h2
   simp only[W,d2];have HP:=bj<|bh J h2;clear J h2 W d2;generalize a3:B.wrap ((R b).2-(R c).2)=y;have hs:=Ha (R b).2 (R c).2;rw[a3]at hs;have HS:=bj hs;have aC:=bj a3;clear hs a3;go_wp2_with fail
   go_region_with (first|(go_at_call 89;refine dq (HS _) ?_;rintro w5 rfl)|(go_at_call 61;refine dq (fK y _) ?_;rintro w6 rfl)|(go_at_call 149;refine dq (kU op a b c fb tb eb cb L nx rb nr back R (0,y) _ (H.kept<|by repeat (first|exact i|refine bo ?_|refine ax ?_ _)).1 (H.kept<|by repeat (first|exact i|refine bo ?_|refine ax ?_ _)).2.1 ha) ?_;rintro w7 ⟨aB,a9⟩))
   all_goals
    have hg:w.grownBy w7 (some rb):=ar (by repeat (first|exact eT i|refine bo ?_|refine ax ?_ _)) aB;have HH:=bj<|bh hg<|bh (da hg H.1 (by intro e;injection e with e;exact H.2.2 e)) a9;clear hg aB a9;go_wp2_with fail
    go_ret;exact ag ⟨HP,rfl,HH.1,HH.2.1,eZ aC.out HH.2.2,H.2.2⟩
  have W:decide ((R b).1=0)=true:=iE J
  have d2:decide ((R c).1=0)=false:=iE h2
  simp only[W,d2];have HP:=bj (show ¬((R b).1=0/\(R c).1=0) from λh=>h2 h.2);clear J h2 W d2;go_wp2_with fail
  go_ret;exact ak ⟨HP,rfl,i⟩
 have W:decide ((R b).1=0)=false:=iE J
 simp only[W];have HP:=bj (show ¬((R b).1=0/\(R c).1=0) from λh=>J h.1);clear J W;go_wp2_with fail
 go_ret;exact ak ⟨HP,rfl,i⟩
end
namespace F
theorem tN(sb pb n k:Nat)(x:Int)(on:Nat->Bool)(f:Fb)(M:Nat->List B.V)(w:aa)(h0:w.cell? (az sb 0)=some (dD pb n n))(ls:sb<w.heap.size)(hP:pt w pb n on f M)(hk:k<n)(hn:n<=200):dC 202 #[P0 sb,vA (k+1,x)] w (.agg #[vT (on<|k+1)<|f.k<|k+1,ah (Dy (on<|k+1) (f.k<|k+1):Nat),qg (on<|k+1) (f.b<|k+1) (M<|k+1).length]) λw'=>w.grownBy w' none:=by
 have hi:=oU (k+1,x);have hd:decide (k+1≠0)=true:=eG
 rw[show((k+1,x):B.V).1=k+1 from rfl,hd]at hi;change Hid _ at hi;have lp:=hP.p.lt;have c0:=hP.p.cell (k*3) af;have c1:=hP.p.cell (k*3+1) af;have c2:=hP.p.cell (k*3+2) af;rw[zl]at c0;rw[zk]at c1;rw[tH]at c2;clear hP hd;obtain⟨y0,Z⟩:∃y,vT (on<|k+1) (f.k<|k+1)=dz y:=⟨_,rfl⟩;generalize ((Dy (on<|k+1) (f.k<|k+1):Nat):Int)=y1 at*;obtain⟨a2,n2,m2,a0⟩:∃a n m,qg (on<|k+1) (f.b<|k+1) (M<|k+1).length=.slice a n m:=by grind[qg]
 rw[Z]at c0⊢;rw[a0]at c2⊢;clear Z a0;have a4:(k:Int)<n:=af
 delta dC;go_in;go_wp2_with fail
 refine dq (hi _) λw1 Y=>?_;have hz:=Y.size;simp at hz;have hx:w1.heap[w.heap.size+1]?=ny #[dz 0,ah 0,.slice none 0 0] 228:=by
  refine(Y.block _ eG ey).trans ?_;have:=bl (gG w #[ah<|(k:Int)+1,ah x] 149)<|.cells #[dz 0,ah 0,.slice none 0 0] 228;simpa using this
 have hv:w1.heap[w.heap.size]?=ny #[ah<|(k:Int)+1,ah x] 149:=by
  refine(Y.block _ fV ey).trans ?_;rw[au _ _ _ eG];exact bl w _
 have W:=bj<|ar (ax (aj w _ none) _) Y;have v0:dW w1 w.heap.size 0=some (ah<|(k:Int)+1):=fj hv
 have v1:dW w1 w.heap.size 1=some (ah x):=fj hv
 have HX:=bj hx;have d0:=(ay W (a:=az sb 0) ls).1.trans h0;have p0:=(ay W (a:=az pb<|k*3) lp).1.trans c0;have p1:=(ay W (a:=az pb<|k*3+1) lp).1.trans c1;have p2:=(ay W (a:=az pb<|k*3+2) lp).1.trans c2;have J:sb<w1.heap.size:=af
 have G:pb<w1.heap.size:=af
 clear Y hx hz hv h0 c0 c1 c2;have H:=bj<|bh p0<|bh p1 p2;clear p0 p1 p2;go_wp2
 go_region_with (go_at_call 201;refine dq ((bj<|oq k x af).out w1.drew) λw2 u=>?_;have i:Hid (iY w1 w2):=⟨u.os,u.tape,u.output,u.size,u.block⟩;have d2:=(ay i (a:=az sb 0) J).1.trans d0;have p0:=(ay i (a:=az pb<|k*3) G).1.trans H.1;have p1:=(ay i (a:=az pb<|k*3+1) G).1.trans H.2.1;have p2:=(ay i (a:=az pb<|k*3+2) G).1.trans H.2.2;have o:=da i HX je;have r0:dW w2 (w.heap.size+1) 0=some (dz 0):=(by simp[World.cell?,o]);have r1:dW w2 (w.heap.size+1) 1=some (ah 0):=(by simp[World.cell?,o]);have r2:dW w2 (w.heap.size+1) 2=some (.slice none 0 0):=(by simp[World.cell?,o]);have t0:w2.frozen? (az (w.heap.size+1) 0)=false:=(by simp[World.frozen?,o]);have t1:w2.frozen? (az (w.heap.size+1) 1)=false:=(by simp[World.frozen?,o]);have t2:w2.frozen? (az (w.heap.size+1) 2)=false:=(by simp[World.frozen?,o]);clear u o)
 all_goals
  go_wp2
  refine dg (v:=.agg #[dz y0,ah y1,.slice a2 n2 m2]) (by simp[results,results202,go_sem,r0,r1,r2]) rfl ⟨rfl,?_⟩;have a1:=ar W i;repeat (first|exact a1|refine bo ?_|refine ax ?_ _|refine bu ?_ (ak eG) _)
theorem wi(pb n:Nat)(on:Nat->Bool)(f:Fb)(M:Nat->List B.V)(w:aa)(hS:pt w pb n on f M)(hn:n<=200):Calls prog 229 #[dD pb n n,Fv 140 #[]] w λe w'=>w.grownBy w' none/\((∃k:Nat,k<n/\on (k+1)=false/\e=.returned (ah k))\/((∀p,1<=p->p<=n->on p=true)/\e=.returned (ah<|-1))):=by
 have KS:=bj hS;go_in;go_wp2
 go_loopw[8] (λi wr=>∃k:Nat,k<=n/\i=ah k/\Hid (∀p,1<=p->p<=k->on p=true)/\Hid (iY w wr)) (λi _=>n-(intOf i).toNat)
 case atStart=>exact⟨0,af,rfl,λp h1 h2=>(by omega),aw _ _⟩
 case round=>
  obtain⟨k,hk,rfl,hK,hG⟩:=hrel;by_cases W:k<n
  .have hS:=KS.kept hG;have c0:=hS.p.cell (k*3) af;have c1:=hS.p.cell (k*3+1) af;have Z:=hS.p.cell (k*3+2) af;rw[zl]at c0;rw[zk]at c1;rw[tH]at Z;have Y:=vn (on<|k+1) (f.k<|k+1) (Dy (on<|k+1) (f.k<|k+1):Nat)<|qg (on<|k+1) (f.b<|k+1) (M<|k+1).length;obtain⟨y0,o⟩:∃y,vT (on<|k+1) (f.k<|k+1)=dz y:=⟨_,rfl⟩;generalize ((Dy (on<|k+1) (f.k<|k+1):Nat):Int)=y1 at*;obtain⟨a2,n2,m2,u⟩:∃a n m,qg (on<|k+1) (f.b<|k+1) (M<|k+1).length=.slice a n m:=by grind[qg]
   rw[o]at c0;rw[u]at Z;rw[o,u]at Y;have HF:=bj Y;have a0:(k:Int)<n:=af
   go_wp2_with fail
   refine dq (HF _) λw1 G=>?_;have H:=bj<|ar hG G
   cases hkd:on (k+1)
   .have J:=bj hkd;simp only[Bool.not_false];go_wp2
    go_ret;exact⟨H,ag ⟨k,W,J,rfl⟩⟩
   have J:=bj hkd;simp only[Bool.not_true];go_wp2
   go_roundw
   case rel=>
    refine⟨k+1,af,iI,λp h1 h2=>?_,H⟩;by_cases e:p=k+1
    .grind
    exact hK p h1 af
   case measure=>simp[intOf];omega
  obtain rfl:k=n:=by omega
  go_wp2
  go_ret;exact⟨hG,ak ⟨hK,rfl⟩⟩
theorem qF(sb pb n:Nat)(on:Nat->Bool)(f:Fb)(M:Nat->List B.V)(w:aa)(H:w.cell? (az sb 0)=some (dD pb n n))(hS:pt w pb n on f M)(hn:n<=200):Calls prog 218 #[P0 sb] w λe w'=>w.grownBy w' none/\((∃k:Nat,k<n/\on (k+1)=false/\e=.returned (ah k))\/((∀p,1<=p->p<=n->on p=true)/\e=.returned (ah<|-1))):=by
 have G:=bj<|wi pb n on f M w hS hn;go_in;go_wp2_with fail
 refine G.mono ?_;rintro e w1 ⟨u,⟨k,o,y,rfl⟩|⟨o,rfl⟩⟩
 .have i:=bj<|bh u<|bh o y;go_wp2
  go_ret;exact⟨i.1,ag ⟨k,i.2.1,i.2.2,rfl⟩⟩
 have i:=bj<|bh u o;go_wp2
 go_ret;simp_all
def kG.c0{w:aa}{sb pb eb n:Nat}{kd:B.Kd}{vb:Vs}{M:Nat->List B.V}(h:kG w sb pb eb n kd vb M):w.cell? (az sb 0)=some (dD pb n n):=by simp[World.cell?,h.b]
theorem Aw(sb pb eb n k i:Nat)(x:Int)(kd:B.Kd)(vb:Vs)(M:Nat->List B.V)(w:aa)(hS:kG w sb pb eb n kd vb M)(hn:n<=200)(hk:k<n)(J:kd.on (k+1)=true)(hi:i<(M<|k+1).length):dC 159 #[P0 sb,vA (k+1,x),ah i] w (vA<|(M<|k+1).getD i (0,0)) λw'=>w.grownBy w' none:=by
 have h0:=hS.c0;have ls:=ch hS.b;have lp:=hS.p.p.lt;have c2:=hS.p.p.cell (k*3+2) af;rw[tH,J]at c2;have hF:=hS.p.s (k+1) af af J;have lf:=hF.lt;have s0:=hF.cell (i*2) af;have s1:=hF.cell (i*2+1) af;rw[pF]at s0;rw[pE]at s1;have Y:qg true (vb.f.b<|k+1) (M<|k+1).length=dD (vb.f.b<|k+1) (M<|k+1).length (M<|k+1).length:=rfl;rw[Y]at c2;have a6:=hS.p.l _ J;show dC 159 #[P0 sb,vA (k+1,x),ah i] w (vA<|mh M (k+1) i) λw'=>iY w w';generalize mh M (k+1) i=y at*;generalize (M<|k+1).length=m at*;generalize vb.f.b (k+1)=g at*;clear hS Y hF;have a3:(k:Int)<n:=af
 have a9:(i:Int)<m:=af
 delta dC;go_in;go_wp2_with fail
 generalize hW:(w.alloc<|.cells #[ah<|(k:Int)+1,ah x] 149).alloc (.cells #[ah 0,ah 0] 149)=w1;have Z:Hid (iY w w1):=by rw[<-hW];exact ax (aj _ _ _) _
 have hz:w1.heap.size=w.heap.size+2:=by rw[<-hW];simp
 have hx:w1.heap[w.heap.size+1]?=ny #[ah 0,ah 0] 149:=by
  rw[<-hW];have:=bl (gG w #[ah<|(k:Int)+1,ah x] 149)<|.cells #[ah 0,ah 0] 149;simpa using this
 have hv:w1.heap[fp w]?=ny #[ah<|(k:Int)+1,ah x] 149:=by
  rw[<-hW,au _ _ _ eG];exact bl w _
 clear hW;have v0:dW w1 (fp w) 0=some (ah<|(k:Int)+1):=fj hv
 have v1:dW w1 (fp w) 1=some (ah x):=fj hv
 have HX:=bj hx;have d0:=(ay Z (a:=az sb 0) ls).1.trans h0;have p2:=(ay Z (a:=az pb<|k*3+2) lp).1.trans c2;have q0:=(ay Z (a:=az g<|i*2) lf).1.trans s0;have q1:=(ay Z (a:=az g<|i*2+1) lf).1.trans s1;have W:sb<w1.heap.size:=af
 have a0:pb<w1.heap.size:=af
 have H:g<w1.heap.size:=af
 have HQ:=bj<|bh p2<|bh q0 q1;clear hx hv h0 c2 s0 s1 p2 q0 q1 hz;go_region_with (go_at_call 201;refine dq ((bj<|oq k x af).out w1.drew) λw2 G=>?_;have o:Hid (iY w1 w2):=⟨G.os,G.tape,G.output,G.size,G.block⟩;have d2:=(ay o (a:=az sb 0) W).1.trans d0;have p2:=(ay o (a:=az pb<|k*3+2) a0).1.trans HQ.1;have q0:=(ay o (a:=az g<|i*2) H).1.trans HQ.2.1;have q1:=(ay o (a:=az g<|i*2+1) H).1.trans HQ.2.2;have u:=da o HX je;have r0:dW w2 (w.heap.size+1) 0=some (ah 0):=(by simp[World.cell?,u]);have r1:dW w2 (w.heap.size+1) 1=some (ah 0):=(by simp[World.cell?,u]);have t0:w2.frozen? (az (w.heap.size+1) 0)=false:=(by simp[World.frozen?,u]);have t1:w2.frozen? (az (w.heap.size+1) 1)=false:=(by simp[World.frozen?,u]);clear G u)
 all_goals
  go_wp2
  refine dg (v:=vA y) (by simp[results,results159,go_sem,r0,r1]) rfl ⟨rfl,?_⟩;have a2:=ar Z o;repeat (first|exact a2|refine bo ?_|refine ax ?_ _|refine bu ?_ (ak eG) _)
def pC(v:B.V)(f:Fb)(M:Nat->List B.V):Value:=if v.1=0\/f.k v.1≠0 then .tuple #[.int .i64 0,.bool false] else .tuple #[.int .i64 (M v.1).length,.bool true]
theorem CC(sb pb eb n:Nat)(v:B.V)(kd:B.Kd)(vb:Vs)(M:Nat->List B.V)(w:aa)(hS:kG w sb pb eb n kd vb M)(hn:n<=200)(hv:B.qX kd.on n v):Calls prog 200 #[P0 sb,vA v] w λe w'=>w.grownBy w' none/\e=.returned (pC v vb.f M):=by
 change Hid _ at hS;obtain⟨v1,v2⟩:=v;rcases hv with hv|⟨y,u,H,Y⟩
 .have hv:v1=0:=hv;subst hv;have G:pC (0,v2) vb.f M=.tuple #[ah 0,.bool false]:=by unfold pC;rw[bf<|ag rfl]
  rw[G];go_in;go_wp2_with fail
  refine dq (tO sb v2 _) λw1 o=>?_;have Z:=bj<|ar (aj w _ none) o;clear o;go_wp2
  go_ret2
  exact⟨ax Z _,rfl⟩
 obtain⟨k,hk⟩:∃k,v1=k+1:=⟨v1-1,af⟩;subst hk;have i:kd.on (k+1)=true:=H;have a0:k<n:=af
 have W:=λw' (hS:kG w' sb pb eb n kd vb M)=>tN sb pb n k v2 kd.on vb.f M w' hS.c0 (ch hS.b) hS.p a0 hn;have e2:qg (kd.on<|k+1) (vb.f.b<|k+1) (M<|k+1).length=dD (vb.f.b<|k+1) (M<|k+1).length (M<|k+1).length:=kh i
 by_cases J:vb.f.k (k+1)=0
 .have e0:vT (kd.on<|k+1) (vb.f.k<|k+1)=dz 1:=by rw[i,J];rfl
  have G:pC (k+1,v2) vb.f M=.tuple #[ah (M<|k+1).length,.bool true]:=by unfold pC;rw[av<|λh=>h.elim (λh=>by cases h)<|λh=>h J]
  rw[G];rw[e0,e2]at W;generalize ((Dy (kd.on<|k+1) (vb.f.k<|k+1):Nat):Int)=y1 at*;generalize (M<|k+1).length=m at*;generalize vb.f.b (k+1)=g at*;change Hid _ at W;clear e0 e2 y u H Y i G J;go_in;go_wp2_with fail
  refine dq (W _<|hS.kept<|aj _ _ _) λw1 o=>?_;have Z:=bj<|ar (aj w _ none) o;clear o;go_wp2
  go_ret2
  exact⟨ax Z _,rfl⟩
 have e0:vT (kd.on<|k+1) (vb.f.k<|k+1)=dz 2:=by rw[i];unfold vT Lb;rw[bf rfl,av J];rfl
 have G:pC (k+1,v2) vb.f M=.tuple #[ah 0,.bool false]:=by unfold pC;rw[bf<|ak J]
 rw[G];rw[e0,e2]at W;generalize ((Dy (kd.on<|k+1) (vb.f.k<|k+1):Nat):Int)=y1 at*;generalize (M<|k+1).length=m at*;generalize vb.f.b (k+1)=g at*;have W:=bj W;clear W e0 e2 y u H Y i G J;go_in;go_wp2_with fail
 refine dq (W _<|hS.kept<|aj _ _ _) λw1 o=>?_;have Z:=bj<|ar (aj w _ none) o;clear o;go_wp2
 go_ret2
 exact⟨ax Z _,rfl⟩
def qV{W:aa}{o:Obj}{b i:Nat}(h:b<W.heap.size):(W.alloc o).cell? (az b i)=W.cell? (az b i):=(ay (aj W o none) (a:=az b i) h).1
def sn(v:B.V)(f:Fb)(M:Nat->List B.V):Value:=if v.1=0\/f.k v.1=0 then .tuple #[.int .i64 0,vA (0,0),.bool false] else .tuple #[.int .i64 ((f.k v.1-1:Nat):Int),vA<|(M v.1).getD 0 (0,0),.bool true]
theorem yg(sb pb eb n:Nat)(v:B.V)(kd:B.Kd)(vb:Vs)(M:Nat->List B.V)(w:aa)(hS:kG w sb pb eb n kd vb M)(hn:n<=200)(hv:B.qX kd.on n v):Calls prog 162 #[P0 sb,vA v] w λe w'=>w.grownBy w' none/\e=.returned (sn v vb.f M):=by
 have KS:=bj hS;obtain⟨v1,H⟩:=v;rcases hv with hv|⟨W,J,a0,a1⟩
 .have hv:v1=0:=hv;subst hv;have Y:sn (0,H) vb.f M=.tuple #[ah 0,vA (0,0),.bool false]:=by unfold sn;rw[bf<|ag rfl]
  rw[Y];go_in;go_wp2_with fail
  refine dq (tO sb H _) λw1 o=>?_;have G:=bj<|ar (ax (aj w _ none) _) o;have hz:=o.size;have u:w1.heap[w.heap.size+1]?=ny #[ah 0,ah 0] 149:=by
   refine(o.block _ eG ey).trans ?_;have:=bl (gG w #[ah ((0:Nat):Int),ah H] 149)<|.cells #[ah 0,ah 0] 149;simpa using this
  have r0:dW w1 (w.heap.size+1) 0=some (ah 0):=fj u
  have r1:dW w1 (w.heap.size+1) 1=some (ah 0):=fj u
  have t0:w1.frozen? (az (w.heap.size+1) 0)=false:=pk u
  have t1:w1.frozen? (az (w.heap.size+1) 1)=false:=pk u
  have lx:=ch u;clear o u;go_wp2
  refine dg (v:=.tuple #[ah 0,vA (0,0),.bool false]) (by simp[results,results162,go_sem,qV,lx,r0,r1]) rfl ⟨?_,rfl⟩;repeat (first|exact G|refine bo ?_|refine ax ?_ _|refine bu ?_ (ak eG) _)
 obtain⟨k,hk⟩:∃k,v1=k+1:=⟨v1-1,af⟩;subst hk;have i:kd.on (k+1)=true:=a0;have a5:k<n:=af
 have ha:=λw' (hS:kG w' sb pb eb n kd vb M)=>tN sb pb n k H kd.on vb.f M w' hS.c0 (ch hS.b) hS.p a5 hn;have e2:qg (kd.on<|k+1) (vb.f.b<|k+1) (M<|k+1).length=dD (vb.f.b<|k+1) (M<|k+1).length (M<|k+1).length:=kh i
 have a4:∀w1:aa,iY (gG (gG w #[ah<|(k:Int)+1,ah H] 149) #[ah 0,ah 0] 149) w1->dW w1 (w.heap.size+1) 0=some (ah 0)/\dW w1 (w.heap.size+1) 1=some (ah 0)/\w1.frozen? (az (w.heap.size+1) 0)=false/\w1.frozen? (az (w.heap.size+1) 1)=false/\w.heap.size+1<w1.heap.size:=λw1 o=>by
  have u:w1.heap[w.heap.size+1]?=ny #[ah 0,ah 0] 149:=by
   refine(o.block _ eG ey).trans ?_;have:=bl (gG w #[ah<|(k:Int)+1,ah H] 149)<|.cells #[ah 0,ah 0] 149;simpa using this
  grind[World.cell?,World.frozen?,ch]
 have a2:=bj a4;by_cases Z:vb.f.k (k+1)=0
 .have e0:vT (kd.on<|k+1) (vb.f.k<|k+1)=dz 1:=by rw[i,Z];rfl
  have Y:sn (k+1,H) vb.f M=.tuple #[ah 0,vA (0,0),.bool false]:=by unfold sn;rw[bf<|ak Z]
  rw[Y];rw[e0,e2]at ha;generalize ((Dy (kd.on<|k+1) (vb.f.k<|k+1):Nat):Int)=y1 at*;generalize (M<|k+1).length=m at*;generalize vb.f.b (k+1)=g at*;change Hid _ at ha;clear e0 e2 W J a0 a1 i Y Z;go_in;go_wp2_with fail
  refine dq (ha _<|KS.kept<|ax (aj _ _ _) _) λw1 o=>?_;have G:=bj<|ar (ax (aj w _ none) _) o;let⟨r0,r1,t0,t1,lx⟩:=a2 w1 o;clear o;go_wp2
  refine dg (v:=.tuple #[ah 0,vA (0,0),.bool false]) (by simp[results,results162,go_sem,qV,lx,r0,r1]) rfl ⟨?_,rfl⟩;repeat (first|exact G|refine bo ?_|refine ax ?_ _|refine bu ?_ (ak eG) _)
 have e0:vT (kd.on<|k+1) (vb.f.k<|k+1)=dz 2:=by rw[i];unfold vT Lb;rw[bf rfl,av Z];rfl
 have e1:Dy (kd.on<|k+1) (vb.f.k<|k+1)=vb.f.k (k+1)-1:=kh i
 have a3:=KS.p.k _ i Z;have Y:sn (k+1,H) vb.f M=.tuple #[ah ((vb.f.k (k+1)-1:Nat):Int),vA<|(M<|k+1).getD 0 (0,0),.bool true]:=by unfold sn;rw[av<|λh=>h.elim (λh=>by cases h)<|λh=>Z h]
 have hF:=KS.p.s (k+1) af af i;have s0:=hF.cell 0 af;have s1:=hF.cell 1 af;have q0:eR (mh M<|k+1) 0=ah (((M<|k+1).getD 0 (0,0)).1:Int):=rfl;have q1:eR (mh M<|k+1) 1=ah ((M<|k+1).getD 0 (0,0)).2:=rfl;rw[q0]at s0;rw[q1]at s1;have lf:=hF.lt;rw[Y];rw[e0,e1,e2,a3]at ha;generalize (M<|k+1).getD 0 (0,0)=y at*;generalize vb.f.k (k+1)-1=ff at*;generalize vb.f.b (k+1)=g at*;have ha:=bj ha;clear ha e0 e1 e2 W J a0 a1 i Y Z hF a3 q0 q1;go_in;go_wp2_with fail
 refine dq (ha _<|KS.kept<|ax (aj _ _ _) _) λw1 o=>?_;have G:=bj<|ar (ax (aj w _ none) _) o;let⟨r0,r1,t0,t1,lx⟩:=a2 w1 o;have p0:=(ay G (a:=az g 0) lf).1.trans s0;have p1:=(ay G (a:=az g 1) lf).1.trans s1;have a6:=dm lf G.size;clear o s0 s1;go_wp2
 go_region
 all_goals
  go_wp2
  refine dg (v:=.tuple #[ah ff,vA y,.bool true]) (by simp[results,results162,go_sem,qV,lx,r0,r1]) rfl ⟨?_,rfl⟩;repeat (first|exact G|refine bo ?_|refine ax ?_ _|refine bu ?_ (ak eG) _)
def mX(f:Fb)(M:Nat->List B.V)(x y:B.V):Prop:=x.1≠0/\f.k x.1=0/\y.1=0/\0<=y.2/\y.2<((M x.1).length:Int)
def iW(f:Fb)(x y:B.V):Nat:=if x.1=0\/f.k x.1≠0 then 2 else if y.1≠0 then 1 else 3
theorem uJ(f:Fb)(x y:B.V):1<=iW f x y/\iW f x y<=3:=by grind[iW]
def Jf(f:Fb)(M:Nat->List B.V)(x y:B.V)(v:Value):Prop:=
 (mX f M x y/\v=.tuple #[.int .i64 y.2,.int .i64 0])\/(¬mX f M x y/\v=.tuple #[.int .i64 0,.int .i64<|iW f x y])
theorem yL(op a b c fb tb eb sb pb n:Nat)(x y:B.V)(kd:B.Kd)(vb:Vs)(M:Nat->List B.V)(w:aa)(hS:kG w sb pb eb n kd vb M)(hn:n<=200)(hx:B.qX kd.on n x)(aE:w.cell? (az eb 27)=some (P0 sb))(le:eb<w.heap.size):Calls prog 158 #[ee op a b c fb tb eb,vA x,vA y] w λe w'=>∃v,e=.returned v/\w.grownBy w' none/\Jf vb.f M x y v:=by
 have KS:=bj hS;have HX:=bj hx;obtain⟨u,G⟩:=y;have a2:x.1≠0->(M x.1).length<=8:=λh0=>by
  rcases hx with h|h
  .omega
  exact hS.p.l _ h.2.2.1
 clear hS hx;go_in;go_wp2_with fail
 generalize hW:((w.alloc<|.cells #[dz op,dz a,dz b,dz c,P0 fb,P0 tb,P0 eb] 186).alloc<|.cells #[ah x.1,ah x.2] 149).alloc (.cells #[ah u,ah G] 149)=w1;have a0:Hid (w.grownBy w1 none):=by rw[<-hW];exact ax (ax (aj _ _ _) _) _
 have a1:w1.heap[w.heap.size]?=some (jF op a b c fb tb eb):=by rw[<-hW,au _ _ _ fV,au _ _ _ eG];exact bl w _
 have Y:w1.heap[w.heap.size+1]?=some (.cells #[ah x.1,ah x.2] 149 (0,0)):=by
  rw[<-hW,au _ _ _ eG];have:=bl (w.alloc<|.cells #[dz op,dz a,dz b,dz c,P0 fb,P0 tb,P0 eb] 186)<|.cells #[ah x.1,ah x.2] 149;simpa using this
 have o:w1.heap[w.heap.size+1+1]?=some (.cells #[ah u,ah G] 149 (0,0)):=by
  rw[<-hW];have:=bl ((w.alloc<|.cells #[dz op,dz a,dz b,dz c,P0 fb,P0 tb,P0 eb] 186).alloc<|.cells #[ah x.1,ah x.2] 149)<|.cells #[ah u,ah G] 149;simpa using this
 clear hW;have H3:=bj o;have x6:=(fe a1).2.2.2.2.2.2;have c0:dW w1 (w.heap.size+1) 0=some (ah x.1):=fj Y
 have c1:dW w1 (w.heap.size+1) 1=some (ah x.2):=fj Y
 obtain⟨a4,_⟩:=ay a0 (a:=az eb 27) le;rw[aE]at a4;have aB:=ch a1;have a9:=ch Y;have aM:=ch o;have aG:eb<w1.heap.size:=af
 clear a1 Y o;have HS:Hid (∀w':aa,w1.grownBy w' none->dW w' w.heap.size 6=some (P0 eb)/\dW w' eb 27=some (P0 sb)/\dW w' (w.heap.size+1) 0=some (ah x.1)/\dW w' (w.heap.size+1) 1=some (ah x.2)):=
  λw' hg=>⟨(ay hg (a:=az w.heap.size 6) aB).1.trans x6,(ay hg (a:=az eb 27) aG).1.trans a4,(ay hg (a:=az (w.heap.size+1) 0) a9).1.trans c0,(ay hg (a:=az (w.heap.size+1) 1) a9).1.trans c1⟩
 go_region_held3 (λw'=>dW w' w.heap.size 6=some (P0 eb)/\dW w' eb 27=some (P0 sb)/\dW w' (w.heap.size+1) 0=some (ah x.1)/\dW w' (w.heap.size+1) 1=some (ah x.2)) (first|exact HS _ (bo<|aw _ _)|exact HS _ a3) (first|(go_at_call 200;refine(CC sb pb eb n x kd vb M w1.drew (KS.kept<|bo a0) hn HX).mono ?_;rintro e w2 ⟨J,hc⟩;have a3:Hid (w1.grownBy w2 none):=⟨J.os,J.tape,J.output,J.size,J.block⟩;obtain⟨n2,ob,rfl,a7⟩:∃(n2:Int) (ob:Bool),e=.returned (.tuple #[ah n2,.bool ob])/\(((x.1=0\/vb.f.k x.1≠0)/\ob=false)\/((x.1≠0/\vb.f.k x.1=0)/\ob=true/\n2=((M x.1).length:Int))):=(by unfold pC at hc;split at hc;exact⟨_,_,hc,ag ⟨qD,rfl⟩⟩;exact⟨_,_,hc,ak ⟨⟨λh=>(by rename_i hh;exact hh<|ag h),(by rename_i hh;exact Classical.byContradiction λh=>hh<|ak h)⟩,rfl,rfl⟩⟩);have aC:=bj a7;clear hc a7 J))
 all_goals
  have o:=dw a3 H3;have e0:dW w2 (w.heap.size+1+1) 0=some (ah u):=fj o
  have e1:dW w2 (w.heap.size+1+1) 1=some (ah G):=fj o
  have a6:=bj<|ar a0 a3;clear o x6 c0 c1 a4;rcases aC with⟨h1,rfl⟩|⟨h1,rfl,rfl⟩
  .have H:=bj (show ¬mX vb.f M x (u,G)/\iW vb.f x (u,G)=2 from⟨λh=>h1.elim h.1<|λg=>g h.2.1,by unfold iW;rw[bf h1]⟩);clear h1 a2;go_wp2
   go_ret2
   exact⟨_,rfl,a6,ak ⟨H.1,kh H.2⟩⟩
  have hl:=a2 h1.1;change Hid _ at h1;clear a2;go_wp2_with fail
  refine dq (gp (u,G) _) λw3 a5=>?_;have Z:=bj<|ar a6 a5;clear a5 e0 e1;generalize aA:(M x.1).length=ln at*;have a8:=bj aA;clear aA;by_cases W:u=0
  .have hd:decide (u=0)=true:=iE W
   simp only[hd];by_cases h0:G<0
   .have H:=bj (show ¬mX vb.f M x (u,G)/\iW vb.f x (u,G)=3 from⟨λh=>by have:(0:Int)<=G:=h.2.2.2.1;omega,by unfold iW;rw[av<|λg=>g.elim h1.1<|λg=>g h1.2,av<|λg=>g W]⟩)
    clear W hd;go_wp2
    go_ret2
    exact⟨_,rfl,Z,ak ⟨H.1,kh H.2⟩⟩
   obtain⟨i,hi⟩:∃i:Nat,G=i:=⟨G.toNat,af⟩;subst hi;by_cases aJ:i<ln
   .have H:=bj (show mX vb.f M x (u,(i:Int)) from⟨h1.1,h1.2,W,by show(0:Int)<=i;omega,by show(i:Int)<_;rw[a8.out];omega⟩)
    have aF:decide ((i:Int)<0)=false:=eG
    clear W hd h0;go_wp2
    go_ret2
    exact⟨_,rfl,Z,ag ⟨H,rfl⟩⟩
   have H:=bj (show ¬mX vb.f M x (u,(i:Int))/\iW vb.f x (u,(i:Int))=3 from⟨λh=>by have:(i:Int)<_:=h.2.2.2.2;rw[a8.out]at this;omega,by unfold iW;rw[av<|λg=>g.elim h1.1<|λg=>g h1.2,av<|λg=>g W]⟩)
   have aF:decide ((i:Int)<0)=false:=eG
   have aH:(ln:Int)<=i:=af
   clear W hd h0;go_wp2
   go_ret2
   exact⟨_,rfl,Z,ak ⟨H.1,kh H.2⟩⟩
  have hd:decide (u=0)=false:=iE W
  simp only[hd];have H:=bj (show ¬mX vb.f M x (u,G)/\iW vb.f x (u,G)=1 from⟨λh=>W h.2.2.1,by unfold iW;rw[av<|λg=>g.elim h1.1<|λg=>g h1.2,bf W]⟩);clear W hd;go_wp2
  go_ret2
  exact⟨_,rfl,Z,ak ⟨H.1,kh H.2⟩⟩
theorem DR(op a b c fb tb eb cb L nx rb nr sb pb n:Nat)(back:Value)(kd:B.Kd)(vb:Vs)(R:Nat->B.V)(M:Nat->List B.V)(w:aa)(hF:Fr w fb cb L nx rb nr back R)(hS:kG w sb pb eb n kd vb M)(hV:∀i,i<nr->B.qX kd.on n (R i))(hn:n<=200)(ha:a<nr)(hb:b<nr)(hc:c<nr)(aE:w.cell? (az eb 27)=some (P0 sb))(le:eb<w.heap.size)(aG:eb≠rb):Calls prog 101 #[ee op a b c fb tb eb] w λe w'=>(mX vb.f M (R b) (R c)/\e=.returned (ah 0)/\w.grownBy w' (some rb)/\Fr w' fb cb L nx rb nr back (B.set R a<|(M (R b).1).getD (R c).2.toNat (0,0)))\/(¬mX vb.f M (R b) (R c)/\e=.returned (ah<|iW vb.f (R b)<|R c)/\w.grownBy w' none):=by
 have KF:=bj hF;have KS:=bj hS;have HV:=bj hV;have aQ:Hid (eb≠rb):=aG;clear hF hS hV aG;go_in;go_wp2_with fail
 have aB:=bj<|iU w op a b c fb tb eb;have a9:=bj<|aj w (.cells #[dz (op:Int),dz (a:Int),dz (b:Int),dz (c:Int),P0 fb,P0 tb,P0 eb] 186) none;generalize hW:w.alloc (.cells #[dz (op:Int),dz (a:Int),dz (b:Int),dz (c:Int),P0 fb,P0 tb,P0 eb] 186)=w1 at*;have b0:w1.heap.size=w.heap.size+1:=by rw[<-hW];simp
 clear hW;go_region_held3 (λw'=>w'.cell? (az w.heap.size 0)=some (dz (op:Int))/\w'.cell? (az w.heap.size 1)=some (dz (a:Int))/\w'.cell? (az w.heap.size 2)=some (dz (b:Int))/\w'.cell? (az w.heap.size 3)=some (dz (c:Int))/\w'.cell? (az w.heap.size 4)=some (P0 fb)/\w'.cell? (az w.heap.size 5)=some (P0 tb)/\w'.cell? (az w.heap.size 6)=some (P0 eb)) (first|exact fe aB.out|exact fe aL.out|exact fe aK.out|exact fe a6.out) (first|(go_at_call 86;refine dq (sA op a b c fb tb eb cb L nx rb nr back R w1.drew (KF.out.kept<|bo a9.out).1 (KF.out.kept<|bo a9.out).2.1 hb) λw2 a8=>?_;have a4:=bj<|ar (bo a9.out) a8;have aL:=bj<|dw a8 (show w1.drew.heap[w.heap.size]?=_ from aB.out);clear a8)|(go_at_call 94;refine dq (tP op a b c fb tb eb cb L nx rb nr back R w2 (KF.out.kept a4.out).1 (KF.out.kept a4.out).2.1 hc) λw3 a1=>?_;have Y:=bj<|ar a4.out a1;have aK:=bj<|dw a1 aL.out;clear a1)|(go_at_call 158;refine(yL op a b c fb tb eb sb pb n (R b) (R c) kd vb M w3 (KS.out.kept Y.out) hn (HV.out b hb) ((ay Y.out (a:=az eb 27) le).1.trans aE)<|dm le Y.out.size).mono ?_;rintro e w4 ⟨v,rfl,a5,a2⟩;have G:=bj<|ar Y.out a5;have a6:=bj<|dw a5 aK.out;obtain⟨pv,wy,rfl⟩:∃(pv:Value) (wy:Int),v=.tuple #[pv,ah wy]:=(by rcases a2 with⟨_,h⟩|⟨_,h⟩;exact⟨_,_,h⟩;exact⟨_,_,h⟩);have aR:=bj a2;clear a5 a2))
 all_goals
  rcases aR.out with⟨H,he⟩|⟨H,he⟩
  .have aA:=bj H;obtain⟨o1,ok,o2,o3,o4⟩:=id H;have hp:1<=(R b).1/\(R b).1<=n/\kd.on (R b).1=true:=by
    rcases HV.out b hb with h|h
    .exact dr h o1
    exact⟨h.1,h.2.1,h.2.2.1⟩
   injection he with he;injection he with he;injection he with a7 o;injection o with o _;injection o with _ o;subst a7 o;obtain⟨i,hi⟩:∃i:Nat,(R c).2=(i:Int):=⟨(R c).2.toNat,af⟩;obtain⟨k,hk⟩:∃k,(R b).1=k+1:=⟨(R b).1-1,af⟩;have aM:i<(M<|k+1).length:=by rw[hi,hk]at o4;omega
   have aD:∀w':aa,w.grownBy w' none->dC 159 #[P0 sb,vA<|R b,ah (R c).2] w' (vA<|(M (R b).1).getD (R c).2.toNat (0,0)) λw''=>w'.grownBy w'' none:=by
    intro w' hg;have e1:R b=(k+1,(R b).2):=gh hk rfl;rw[hk,hi];have:=Aw sb pb eb n k i (R b).2 kd vb M w' (KS.out.kept hg) hn af (by rw[<-hk];exact hp.2.2) aM;rw[<-e1]at this;exact this
   have aS:=bj aD;generalize a0:(M (R b).1).getD (R c).2.toNat (0,0)=aU at*;have aC:=bj a0;generalize aJ:(R c).2=yy at*;have aN:=bj aJ;clear aJ;clear H ok o1 o2 o3 o4 hp hi hk aM aD a0;have W:=bj<|KF.out.kept G.out;obtain⟨x0,x1,x2,x3,x4,x5,x6⟩:=fe a6.out;have lx:=ch a6.out;have u:w.heap.size≠rb:=gD KF.out.2.1.lt
   have aT:eb≠rb:=by have:=aQ.out;exact this
   have HS:Hid (∀w':aa,dN (λk=>k=rb) w4 w'->(w'.cell? (az w.heap.size 0)=some (dz (op:Int))/\w'.cell? (az w.heap.size 1)=some (dz (a:Int))/\w'.cell? (az w.heap.size 2)=some (dz (b:Int))/\w'.cell? (az w.heap.size 3)=some (dz (c:Int))/\w'.cell? (az w.heap.size 4)=some (P0 fb)/\w'.cell? (az w.heap.size 5)=some (P0 tb)/\w'.cell? (az w.heap.size 6)=some (P0 eb)/\w'.cell? (az eb 27)=some (P0 sb))):=
    λw' hO=>⟨(hO.cell lx u).trans x0,(hO.cell lx u).trans x1,(hO.cell lx u).trans x2,(hO.cell lx u).trans x3,(hO.cell lx u).trans x4,(hO.cell lx u).trans x5,(hO.cell lx u).trans x6,(hO.cell af aT).trans<|(ay G.out (a:=az eb 27) le).1.trans aE⟩
   have aO:=bj<|HS.out w4.drew<|dx _ _;go_wp2_with fail
   go_region_held3 (λw'=>w'.cell? (az w.heap.size 0)=some (dz (op:Int))/\w'.cell? (az w.heap.size 1)=some (dz (a:Int))/\w'.cell? (az w.heap.size 2)=some (dz (b:Int))/\w'.cell? (az w.heap.size 3)=some (dz (c:Int))/\w'.cell? (az w.heap.size 4)=some (P0 fb)/\w'.cell? (az w.heap.size 5)=some (P0 tb)/\w'.cell? (az w.heap.size 6)=some (P0 eb)/\w'.cell? (az eb 27)=some (P0 sb)) (first|exact aO.out|exact aW.out|exact aY.out|exact aV.out) (first|(go_at_call 86;refine dq (sA op a b c fb tb eb cb L nx rb nr back R w4.drew (W.out.kept<|bo<|aw _ _).1 (W.out.kept<|bo<|aw _ _).2.1 hb) λw5 y=>?_;have a3:Hid (w4.grownBy w5 none):=⟨y.os,y.tape,y.output,y.size,y.block⟩;have aW:=bj<|HS.out w5<|eA a3.out;clear y)|(go_at_call 159;refine dq (aS.out w5<|ar G.out a3.out) λw6 aI=>?_;have J:=bj<|ar a3.out aI;have aY:=bj<|HS.out w6<|eA J.out;clear aI)|(go_at_call 149;refine dq (kU op a b c fb tb eb cb L nx rb nr back R aU w6 (W.out.kept J.out).1 (W.out.kept J.out).2.1 ha) ?_;rintro w7 ⟨Z,aH⟩;have aV:=bj<|HS.out w7<|(eA (S:=λk=>k=rb) J.out).then Z (ag rfl);have HR:=bj<|bh (ar (eT<|ar G.out J.out) Z)<|bh (da Z (W.out.kept J.out).1 (by intro e;injection e with e;exact KF.out.2.2 e)) aH;clear Z aH))
   all_goals
    go_wp2_with fail
    go_ret;exact ag ⟨aA.out,rfl,HR.out.1,HR.out.2.1,by rw[aN.out,aC.out];exact HR.out.2.2,KF.out.2.2⟩
  have aX:=uJ vb.f (R b)<|R c;generalize aF:iW vb.f (R b) (R c)=why at*;have aP:=bj aF;injection he with he;injection he with he;injection he with a7 o;injection o with o _;injection o with _ o;subst a7 o;have aA:=bj H;have aZ:¬((why:Int)=0):=af
  clear H aF aX;go_wp2_with fail
  go_ret;exact ak ⟨aA.out,kh aP.out,G.out⟩
end F
section
def B.iL(c t:Int):Int:=if t<=0 then c else if t<=9223372036854775807-c then c+t else 9223372036854775807
theorem B.yp{c t:Int}(e:0<=c)(i:c<=9223372036854775807):0<=B.iL c t/\B.iL c t<=9223372036854775807:=by
 grind[B.iL]
theorem xk(eb:Nat)(c t:Int)(w:aa)(h:w.cell? ⟨eb,28,none⟩=some (.int .i64 c))(Z:0<=c)(Y:c<=9223372036854775807):Calls prog 64 #[P0 eb,.int .i64 t] w λe w'=>e=.returned (.int .i64<|B.iL c t)/\w'=w:=by
 generalize J:B.iL c t=y;have o:=bj J;have W:IntKind.i64.wrap (9223372036854775807-c)=9223372036854775807-c:=by simp[IntKind.wrap,IntKind.bits,IntKind.signed];omega
 by_cases ht:t<0
 .have i:y=c:=by rw[<-o.out];unfold B.iL;rw[bf af]
  subst i
  have u:¬(9223372036854775807-y<0):=af
  go_in;go_wp2_with fail
  go_ret;simp_all
 by_cases H:t<=9223372036854775807-c
 .have i:c+t=y:=by
   rw[<-o.out];unfold B.iL
   by_cases h:t<=0
   .omega
   rw[av h,bf H]
  have u:¬(9223372036854775807-c<t):=af
  have G:IntKind.i64.wrap (c+t)=c+t:=by simp[IntKind.wrap,IntKind.bits,IntKind.signed];omega
  go_in;go_wp2_with fail
  go_ret;simp_all
 have i:c+(9223372036854775807-c)=y:=by
  rw[<-o.out];unfold B.iL
  rw[av af,av H];omega
 have u:9223372036854775807-c<t:=af
 go_in;go_wp2_with fail
 go_ret;simp_all
theorem Il(op a b c fb tb eb:Nat)(x:Int)(w:aa)(h:w.cell? (az eb 28)=some (ah x))(le:eb<w.heap.size):dC 117 #[ee op a b c fb tb eb] w (vA (0,x)) λw'=>w.grownBy w' none:=by
 have i:eb<w.heap.size+1:=af
 delta dC;go_in;go_wp2_with fail
 refine dq (fK x _) ?_;rintro w2 rfl;go_wp2
 refine dg (v:=vA (0,x)) (by simp[results,results117,go_sem]) rfl ⟨rfl,?_⟩;grind[aw,ax,bu]
end
namespace B
variable {on:Nat->Bool}
theorem gE.LV{n:Nat}{M:Nat->List V}{c:Cy}{T:Nat->Prop}(h:gE on n M c T)(p:Nat):T p↔DV c.m c.st [] M p:=
 ⟨h.hf p,λhp=>hp T h.hc (λk o v e i=>(h.hb k (h.hc k<|h.hd k o) v e).2 i) (λv e=>by grind)<|λk _ o v e i=>(h.hb k o v e).2 i⟩
def sE(n:Nat)(M:Nat->List V)(c:Cy)(S L:Nat):Prop:=
 ∃l:List Nat,l.Nodup/\(∀p,p∈l↔DV c.m c.st [] M p)/\l.length=S/\L+c.nx=c.st.length+jW c.m n+S
def jo(on:Nat->Bool)(n:Nat):Nat:=n-jW on n
theorem kY(on:Nat->Bool)(n:Nat):jo on n+jW on n=n:=by grind[sh,jo]
theorem tg{n:Nat}(l:List Nat)(h:l.Nodup)(i:∀p,p∈l->1<=p/\p<=n/\on p=true):l.length<=jo on n:=by
 have o:=xU l (((List.range n).map (· + 1)).filter on) h (λx e=>by
  grind[uD])
 have:=sh on n;grind[kY]
theorem Fc{n:Nat}(l:List Nat)(o:∀p,1<=p->p<=n->on p=true->p∈l):jo on n<=l.length:=by
 have u:=xU (((List.range n).map (· + 1)).filter on) l (List.Pairwise.sublist List.filter_sublist (List.pairwise_map.2 (List.Pairwise.imp (fun {a b} h e=>h af) List.nodup_range))) (λx i=>by
  grind)
 have:=sh on n;grind[kY]
section
variable {on on':Nat->Bool}{n:Nat}{M M':Nat->List V}{c c':Cy}{T T':Nat->Prop}{S L:Nat}
theorem sE.go(h:sE n M c S L)(y:gE on n M c T)(e:gE on' n M' c' T){L':Nat}(he:L'+c'.nx+(c.st.length+jW c.m n)=L+c.nx+(c'.st.length+jW c'.m n)):sE n M' c' S L':=by
 obtain⟨l,o,u,i,H⟩:=h;exact⟨l,o,λp=>(u p).trans<|(y.LV p).symm.trans<|e.LV p,i,af⟩
theorem sE.iB(h:sE n M c S L)(u:gE on n M c T):∃l:List Nat,l.Nodup/\(∀p,p∈l↔T p)/\l.length=S:=by
 obtain⟨l,i,o,e,_⟩:=h;grind[B.gE.LV]
def sE.NS(h:sE n M c S L)(e:gE on n M c T):S<=jo on n:=by
 let⟨l,o,u,i⟩:=h.iB e;rw[<-i];exact tg l o<|λp hp=>e.ha p<|(u p).1 hp
theorem sE.cm(h:sE n M c S L)(e:gE on n M c T):n<=jW c.m n+S:=by
 let⟨l,u,i,o⟩:=h.iB e;have:=Fc (on:=c.m) (n:=n) l<|λp _ _ hp=>(i p).2<|e.hc p hp;grind[kY]
def sE.pos(h:sE n M c S L)(e:gE on n M c T)(hx:c.nx<n):0<L:=by
 have i:=h.cm e;obtain⟨l,u,y,o,H⟩:=h;omega
theorem sE.zero(h:sE n M c S L)(e:gE on n M c T)(hn:1<=n)(hx:c.nx=n):L=0/\jo on n=S:=by
 have i:=e.hg af;let⟨l,H,u,W⟩:=h.iB e;have hm:=tg l H (λp hp=>by
  have y:=(u p).1 hp;have:=e.ha p y;exact⟨this.1,this.2.1,(e.last i p).2 y⟩)
 have ho:jo on n<=l.length:=Fc l<|λp J Z hp=>(u p).2<|e.hc p<|e.hi p J af hp;have:=h.NS e;obtain⟨Y,_,_,_,o⟩:=h;grind[kY]
theorem sE.unit(h:sE n M c S L)(o:gE on n M c T)(hx:c.nx<n):sE n M (unit M on c).2 S (L-1):=by
 have hp:=h.pos o hx;have i:=qf o hx;rcases List.eq_nil_or_concat c.st with e|⟨u,p,e⟩
 .rw[og e]at i⊢;refine h.go o i ?_;show L-1+(c.nx+1)+_=L+c.nx+(c.st.length+jW c.m n);omega
 rw[List.concat_eq_append]at e;rw[od e]at i⊢;refine h.go o i ?_;have H:=lS (n:=n) (M p) c.m u (λv J y=>by
  exact(o.ha _<|(o.hb p (o.hc p<|o.hd p ey) v J).2 y).2.1)
 show L-1+c.nx+_=L+c.nx+((gF c.m u<|M p).2.length+jW (gF c.m u<|M p).1 n);grind
theorem sE.told(h:sE n M c S L)(o:gE on n M c T){v:V}(i:v.1≠0->v.1<=n)(e:gE on n M' ⟨(seen c.m c.st v).1,(seen c.m c.st v).2,c.nx⟩ T):sE n M' ⟨(seen c.m c.st v).1,(seen c.m c.st v).2,c.nx⟩ S L:=by
 grind[seen,jW,yO,B.sE.go]
theorem sE.laid(h:sE n M c S L)(u:gE on n M c T){q:Nat}(H:1<=q)(h2:q<=n)(J:on q=false)(o:gE (mark on q) n M' ⟨mark c.m q,c.st,c.nx⟩ (λp=>p=q\/T p)):sE n M' ⟨mark c.m q,c.st,c.nx⟩ (S+1) L:=by
 let⟨l,Z,y,a3⟩:=h.iB u;obtain⟨_,_,_,_,a4⟩:=h;have i:¬T q:=λi=>by grind[B.gE.ha]
 have Y:c.m q=false:=by
  cases e:c.m q with
  |false=>rfl
  |true=>exact absurd (u.hc q e) i
 refine⟨q :: l,List.nodup_cons.2 ⟨λW=>i<|(y q).1 W,Z⟩,λp=>?_,by simp[a3],?_⟩
 .rw[List.mem_cons,<-o.LV p,y p]
 grind[sv,jW,mark]
end
theorem C2{kd:Kd}{nr n:Nat}{s:St}(h:jP kd nr n s){l:List Nat}(o:l.Nodup)(u:∀p,p∈l↔Reach nr s p):sE n s.2.2 (begun s.2.1 nr) l.length (l.length+n):=by
 refine⟨l,o,λp=>(u p).trans<|(oQ h).LV p,rfl,?_⟩;have:=lS (n:=n) (jm s.2.1 nr) (λ_=>false) [] (λv y e=>by
  obtain⟨i,hi,rfl⟩:=mm.1 y;exact(mn h<|jS i hi e).2.2)
 rw[sw]at this;show l.length+n+0=(gF (λ_=>false) []<|jm s.2.1 nr).2.length+jW (gF (λ_=>false) []<|jm s.2.1 nr).1 n+l.length;grind
