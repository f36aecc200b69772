import Derived.Test.YtnjiinbhbjpfkaaGreatDoorTB
import Derived.Test.YtnjiinbhbjpfkaaGreatDoorTC
set_option maxRecDepth 100000
set_option maxHeartbeats 0
set_option linter.all false
namespace Go.Proofs.YtnjiinbhbjpfkaaGreatDoor
open Go.RowKit Go.Proofs.Tryz
section
theorem vQ{α β:Type}(f:α->β):∀(xs:List α) (i:Nat),(xs.map f).eraseIdx i=(xs.eraseIdx i).map f
 | [],_=>rfl
 | _ :: _,0=>rfl
 | x :: xs,i+1=>by simp[vQ f xs i]
theorem sy:∀(xs:List Nat) (x:Nat),xs.eraseIdx (xs.idxOf x)=xs.erase x
 | [],x=>rfl
 | y :: xs,x=>by
  rw[List.idxOf_cons,List.erase_cons];by_cases e:y=x
  .grind
  have i:(y == x)=false:=gG e;rw[i];simp[sy xs x]
structure Ln(w:aa) (b o:Nat) (T:TypeId) (N:Nat) (E:Nat->Value) (ad:Option Addr) (n c:Nat) (xs:List Nat):Prop where
 hE:Full w b T N N E
 ho:o<N
 e:E o=.slice ad n c
 row:w.ownsRow 0 155 1 (.slice ad n c) n (xs.map P0)
 hn:n<=1000000000
theorem Ln.len{w:aa}{b o:Nat}{T:TypeId}{N:Nat}{E:Nat->Value}{ad:Option Addr}{n c:Nat}{xs:List Nat}(h:Ln w b o T N E ad n c xs):xs.length=n:=by
 have:=h.row.1;grind
theorem DJ(b o g c n tb N:Nat)(T:TypeId)(E Tk:Nat->Value)(xs:List Nat)(w:aa)(H:Ln w b o T N E (some (ay g 0)) n c xs)(hT:Full w tb 160 7 7 Tk)(Y:Tk 3=Pt b o)(hm:tb∈xs)(hX:∀x,x∈xs->jF w x 160 7)(nb:b≠tb)(ng:g≠b)(a0:g≠tb): eL 133 #[P0 tb] w λw'=>Ln w' b o T N (eC E o (dA g (n-1) c)) (some (ay g 0)) (n-1) c (xs.erase tb)/\Full w' tb 160 7 7 (eC (eC Tk 3 (.pointer none)) 4 .nilFunc)/\dM (λk=>k=b\/k=tb\/k=g) w w':=by
 obtain⟨a3,aG⟩:=H.hE.cells o H.ho;obtain⟨c3,z3⟩:=hT.cells 3 ag;obtain⟨c4,z4⟩:=hT.cells 4 ag;rw[H.e]at a3;rw[Y]at c3;generalize Tk 4=y4 at c4;have le:=H.hE.lt;have lt:=hT.lt;have G:=H.len;have Z:xs.idxOf tb<n:=by rw[<-G];exact List.idxOf_lt_length_of_mem hm
 have a7:Hid (dD 183 #[dA g n c,P0 tb] w (aj (xs.idxOf tb:Nat)) λw'=>w'=w):=
  DS g c n tb xs w G.symm H.hn (λj x hx=>by
   have:=(gZ H.row).2.2.2.2.2 j (P0 x) (by simp[hx]);exact this) hT.zq hX hm
 have a8:Hid (∀w1:aa,w1.ownsRow 0 155 1 (dA g n c) n (xs.map P0)->dD 184 #[dA g n c,aj ((xs.idxOf tb:Nat):Int),aj (((xs.idxOf tb:Nat):Int)+1)] w1 (dA g (n-1) c) λw'=>w'.ownsRow 0 155 1 (dA g (n-1) c) (n-1) ((xs.erase tb).map P0)/\w1.grownBy w' (some g)):=λw1 h1=>by
  refine(DW g c n (xs.idxOf tb) 0 (xs.map P0) w1 h1 Z (λx hx=>?_) H.hn).mono ?_
  .obtain⟨y,_,rfl⟩:=eK.1 hx;rfl
  rintro e w' ⟨h2,h3,h4⟩;refine⟨h2,?_,h4⟩;rw[vQ]at h3;rw[sy]at h3;exact h3
 change Hid _ at H Y Z;have HT:Hid (Full w tb 160 7 7 Tk):=hT;generalize xs.idxOf tb=ix at *;clear hT hm hX G;delta eL;go_in;go_wp2_with fail
 refine du a7 ?_;rintro w1 rfl;have aD:ix<=1000000000:=by have:=Z.out;have:=H.hn;omega
 go_wp2_with fail
 have aJ:IntKind.i64.wrap ((ix:Int)+1)=(ix:Int)+1:=jG _ ⟨ag,ag⟩;go_region_with (first|(go_at_call 184;refine du (a8 w1.drew (dQ H.row (λ_ _=>rfl))) ?_;rintro w2 ⟨a1,i⟩;have J:w1.grownBy w2 (some g):=⟨i.os,i.tape,i.output,i.size,i.block⟩;clear i;have a2:Hid (w2.ownsRow 0 155 1 (dA g (n-1) c) (n-1) ((xs.erase tb).map P0)):=a1;have a6:Hid (w1.grownBy w2 (some g)):=J;have W:=bj (H.hE.kept J (λe=>ng e.symm));have u:Hid (Full w2 tb 160 7 7 Tk):=HT.kept J (λe=>a0 e.symm);obtain⟨a5,aF⟩:=W.cells o H.ho;have aA:=a5.trans (by rw[H.e]);have aE:dS w2 tb 3=some (Pt b o):=(u.cell 3 ag).trans (by rw[Y.out]);clear a1 J))
 all_goals
  obtain⟨d4,e4⟩:=u.cells 4 ag;obtain⟨_,e3⟩:=u.cells 3 ag;generalize Tk 4=y4 at d4;have aC:¬b=tb:=nb;go_wp2
  go_end0;have g1:=a0;have g2:g≠b:=ng;refine⟨rfl,{ hE:=?_,ho:=H.ho,e:=gO _ _ _,row:=dQ a2 (λk h=>?_),hn:=by have:=H.hn;omega },?_,?_⟩
  .exact((W.eC o _).off nb).off nb
  .have:k=g:=by injection h with h;exact h.symm
   subst this;show((World.setCell _ _ _).setCell _ _).heap[k]? = _;rw[ab _ _ _ _ g1,ab _ _ _ _ g1,ab _ _ _ _ g2]
  .exact((u.off (λe=>nb e.symm)).eC 3 _).eC 4 _
  exact bp (bp (bp (jB a6 (ah (ah rfl))) (af (af rfl)) _) (af (ah (af rfl))) _) (af (ah (af rfl))) _
end
namespace F
theorem sU(sb pb n k:Nat)(x:Int)(on:Nat->Bool)(f:Fb)(M:Nat->List B.V)(w:aa)(h0:w.cell? (ay sb 0)=some (dA pb n n))(ls:sb<w.heap.size)(hP:oW w pb n on f M)(hk:k<n)(hn:n<=200): dD 202 #[P0 sb,vA (k+1,x)] w (.agg #[vz (on (k+1)) (f.k (k+1)),aj (E9 (on (k+1)) (f.k (k+1)):Nat),qo (on (k+1)) (f.b (k+1)) (M (k+1)).length]) λw'=>w.grownBy w' none:=by
 have hi:=oE (k+1,x);have hd:decide (k+1≠0)=true:=eB
 rw[show((k+1,x):B.V).1=k+1 from rfl,hd]at hi;change Hid _ at hi;have lp:=hP.p.lt;have c0:=hP.p.cell (k*3) ag;have c1:=hP.p.cell (k*3+1) ag;have c2:=hP.p.cell (k*3+2) ag;rw[A3]at c0;rw[A2]at c1;rw[uu]at c2;clear hP hd;obtain⟨y0,Z⟩:∃y,vz (on (k+1)) (f.k (k+1))=dy y:=⟨_,rfl⟩;generalize ((E9 (on (k+1)) (f.k (k+1)):Nat):Int)=y1 at *;obtain⟨a2,n2,m2,a0⟩:∃a n m,qo (on (k+1)) (f.b (k+1)) (M (k+1)).length=.slice a n m:=by grind[qo]
 rw[Z]at c0 ⊢;rw[a0]at c2 ⊢;clear Z a0;have a4:(k:Int)<n:=ag
 delta dD;go_in;go_wp2_with fail
 refine du (hi _) λw1 Y=>?_;have hz:=Y.size;simp at hz;have hx:w1.heap[w.heap.size+1]? = some (.cells #[dy 0,aj 0,.slice none 0 0] 228 (0,0)):=by
  refine(Y.block _ eB eR).trans ?_;have:=bl (w.alloc (.cells #[aj ((k:Int)+1),aj x] 149)) (.cells #[dy 0,aj 0,.slice none 0 0] 228);simpa using this
 have hv:w1.heap[w.heap.size]? = some (.cells #[aj ((k:Int)+1),aj x] 149 (0,0)):=by
  refine(Y.block _ fH eR).trans ?_;rw[av _ _ _ eB];exact bl w _
 have W:=bj (ar (ax (ak w _ none) _) Y);have v0:dS w1 w.heap.size 0=some (aj ((k:Int)+1)):=fy hv
 have v1:dS w1 w.heap.size 1=some (aj x):=fy hv
 have HX:=bj hx;have d0:=(bd W (a:=ay sb 0) ls).1.trans h0;have p0:=(bd W (a:=ay pb (k*3)) lp).1.trans c0;have p1:=(bd W (a:=ay pb (k*3+1)) lp).1.trans c1;have p2:=(bd W (a:=ay pb (k*3+2)) lp).1.trans c2;have J:sb<w1.heap.size:=ag
 have G:pb<w1.heap.size:=ag
 clear Y hx hz hv h0 c0 c1 c2;have H:=bj (bh p0 (bh p1 p2));clear p0 p1 p2;go_wp2
 go_region_with (go_at_call 201;refine du ((bj (nT k x ag)).out w1.drew) λw2 u=>?_;have i:Hid (w1.grownBy w2 none):=⟨u.os,u.tape,u.output,u.size,u.block⟩;have d2:=(bd i (a:=ay sb 0) J).1.trans d0;have p0:=(bd i (a:=ay pb (k*3)) G).1.trans H.1;have p1:=(bd i (a:=ay pb (k*3+1)) G).1.trans H.2.1;have p2:=(bd i (a:=ay pb (k*3+2)) G).1.trans H.2.2;have o:=da i HX im;have r0:dS w2 (w.heap.size+1) 0=some (dy 0):=(by simp[World.cell?,o]);have r1:dS w2 (w.heap.size+1) 1=some (aj 0):=(by simp[World.cell?,o]);have r2:dS w2 (w.heap.size+1) 2=some (.slice none 0 0):=(by simp[World.cell?,o]);have t0:w2.frozen? (ay (w.heap.size+1) 0)=false:=(by simp[World.frozen?,o]);have t1:w2.frozen? (ay (w.heap.size+1) 1)=false:=(by simp[World.frozen?,o]);have t2:w2.frozen? (ay (w.heap.size+1) 2)=false:=(by simp[World.frozen?,o]);clear u o)
 all_goals
  go_wp2
  refine dg (v:=.agg #[dy y0,aj y1,.slice a2 n2 m2]) (by simp[results,results202,go_sem,r0,r1,r2]) rfl ⟨rfl,?_⟩;have a1:=ar W i;repeat (first|exact a1|refine bo ?_|refine ax ?_ _|refine bu ?_ (ah eB) _)
theorem vB(pb n:Nat)(on:Nat->Bool)(f:Fb)(M:Nat->List B.V)(w:aa)(hS:oW w pb n on f M)(hn:n<=200): Calls prog 229 #[dA pb n n,Fv 140 #[]] w λe w'=>w.grownBy w' none/\((∃k:Nat,k<n/\on (k+1)=false/\e=.returned (aj k))\/((∀p,1<=p->p<=n->on p=true)/\e=.returned (aj (-1)))):=by
 have KS:=bj hS;go_in;go_wp2
 go_loopw [8] (λi wr=>∃k:Nat,k<=n/\i=aj k/\Hid (∀p,1<=p->p<=k->on p=true)/\Hid (w.grownBy wr none)) (λi _=>n-(intOf i).toNat)
 case atStart=>exact⟨0,ag,rfl,λp h1 h2=>(by omega),aw _ _⟩
 case round=>
  obtain⟨k,hk,rfl,hK,hG⟩:=hrel;by_cases W:k<n
  .have hS:=KS.kept hG;have c0:=hS.p.cell (k*3) ag;have c1:=hS.p.cell (k*3+1) ag;have Z:=hS.p.cell (k*3+2) ag;rw[A3]at c0;rw[A2]at c1;rw[uu]at Z;have Y:=Am (on (k+1)) (f.k (k+1)) (E9 (on (k+1)) (f.k (k+1)):Nat) (qo (on (k+1)) (f.b (k+1)) (M (k+1)).length);obtain⟨y0,o⟩:∃y,vz (on (k+1)) (f.k (k+1))=dy y:=⟨_,rfl⟩;generalize ((E9 (on (k+1)) (f.k (k+1)):Nat):Int)=y1 at *;obtain⟨a2,n2,m2,u⟩:∃a n m,qo (on (k+1)) (f.b (k+1)) (M (k+1)).length=.slice a n m:=by grind[qo]
   rw[o]at c0;rw[u]at Z;rw[o,u]at Y;have HF:=bj Y;have a0:(k:Int)<n:=ag
   go_wp2_with fail
   refine du (HF _) λw1 G=>?_;have H:=bj (ar hG G)
   cases hkd:on (k+1)
   .have J:=bj hkd;simp only[Bool.not_false];go_wp2
    go_ret;exact⟨H,af ⟨k,W,J,rfl⟩⟩
   have J:=bj hkd;simp only[Bool.not_true];go_wp2
   go_roundw
   case rel=>
    refine⟨k+1,ag,iA,λp h1 h2=>?_,H⟩;by_cases e:p=k+1
    .grind
    exact hK p h1 ag
   case measure=>simp[intOf];omega
  obtain rfl:k=n:=by omega
  go_wp2
  go_ret;exact⟨hG,ah ⟨hK,rfl⟩⟩
theorem qf(sb pb n:Nat)(on:Nat->Bool)(f:Fb)(M:Nat->List B.V)(w:aa)(H:w.cell? (ay sb 0)=some (dA pb n n))(hS:oW w pb n on f M)(hn:n<=200): Calls prog 218 #[P0 sb] w λe w'=>w.grownBy w' none/\((∃k:Nat,k<n/\on (k+1)=false/\e=.returned (aj k))\/((∀p,1<=p->p<=n->on p=true)/\e=.returned (aj (-1)))):=by
 have G:=bj (vB pb n on f M w hS hn);go_in;go_wp2_with fail
 refine G.mono ?_;rintro e w1 ⟨u,⟨k,o,y,rfl⟩|⟨o,rfl⟩⟩
 .have i:=bj (bh u (bh o y));go_wp2
  go_ret;exact⟨i.1,af ⟨k,i.2.1,i.2.2,rfl⟩⟩
 have i:=bj (bh u o);go_wp2
 go_ret;simp_all
def kD.c0{w:aa}{sb pb eb n:Nat}{kd:B.Kd}{vb:Vs}{M:Nat->List B.V}(h:kD w sb pb eb n kd vb M):w.cell? (ay sb 0)=some (dA pb n n):=by simp[World.cell?,h.b]
theorem zP(sb pb eb n k i:Nat)(x:Int)(kd:B.Kd)(vb:Vs)(M:Nat->List B.V)(w:aa)(hS:kD w sb pb eb n kd vb M)(hn:n<=200)(hk:k<n)(J:kd.on (k+1)=true)(hi:i<(M (k+1)).length): dD 159 #[P0 sb,vA (k+1,x),aj i] w (vA ((M (k+1)).getD i (0,0))) λw'=>w.grownBy w' none:=by
 have h0:=hS.c0;have ls:=ch hS.b;have lp:=hS.p.p.lt;have c2:=hS.p.p.cell (k*3+2) ag;rw[uu,J]at c2;have hF:=hS.p.s (k+1) ag ag J;have lf:=hF.lt;have s0:=hF.cell (i*2) ag;have s1:=hF.cell (i*2+1) ag;rw[ph]at s0;rw[pf]at s1;have Y:qo true (vb.f.b (k+1)) (M (k+1)).length=dA (vb.f.b (k+1)) (M (k+1)).length (M (k+1)).length:=rfl;rw[Y]at c2;have a6:=hS.p.l _ J;show dD 159 #[P0 sb,vA (k+1,x),aj i] w (vA (lM M (k+1) i)) λw'=>w.grownBy w' none;generalize lM M (k+1) i=y at *;generalize (M (k+1)).length=m at *;generalize vb.f.b (k+1)=g at *;clear hS Y hF;have a3:(k:Int)<n:=ag
 have a9:(i:Int)<m:=ag
 delta dD;go_in;go_wp2_with fail
 generalize hW:(w.alloc (.cells #[aj ((k:Int)+1),aj x] 149)).alloc (.cells #[aj 0,aj 0] 149)=w1;have Z:Hid (w.grownBy w1 none):=by rw[<-hW];exact ax (ak _ _ _) _
 have hz:w1.heap.size=w.heap.size+2:=by rw[<-hW];simp
 have hx:w1.heap[w.heap.size+1]? = some (.cells #[aj 0,aj 0] 149 (0,0)):=by
  rw[<-hW];have:=bl (w.alloc (.cells #[aj ((k:Int)+1),aj x] 149)) (.cells #[aj 0,aj 0] 149);simpa using this
 have hv:w1.heap[w.heap.size]? = some (.cells #[aj ((k:Int)+1),aj x] 149 (0,0)):=by
  rw[<-hW,av _ _ _ eB];exact bl w _
 clear hW;have v0:dS w1 w.heap.size 0=some (aj ((k:Int)+1)):=fy hv
 have v1:dS w1 w.heap.size 1=some (aj x):=fy hv
 have HX:=bj hx;have d0:=(bd Z (a:=ay sb 0) ls).1.trans h0;have p2:=(bd Z (a:=ay pb (k*3+2)) lp).1.trans c2;have q0:=(bd Z (a:=ay g (i*2)) lf).1.trans s0;have q1:=(bd Z (a:=ay g (i*2+1)) lf).1.trans s1;have W:sb<w1.heap.size:=ag
 have a0:pb<w1.heap.size:=ag
 have H:g<w1.heap.size:=ag
 have HQ:=bj (bh p2 (bh q0 q1));clear hx hv h0 c2 s0 s1 p2 q0 q1 hz;go_region_with (go_at_call 201;refine du ((bj (nT k x ag)).out w1.drew) λw2 G=>?_;have o:Hid (w1.grownBy w2 none):=⟨G.os,G.tape,G.output,G.size,G.block⟩;have d2:=(bd o (a:=ay sb 0) W).1.trans d0;have p2:=(bd o (a:=ay pb (k*3+2)) a0).1.trans HQ.1;have q0:=(bd o (a:=ay g (i*2)) H).1.trans HQ.2.1;have q1:=(bd o (a:=ay g (i*2+1)) H).1.trans HQ.2.2;have u:=da o HX im;have r0:dS w2 (w.heap.size+1) 0=some (aj 0):=(by simp[World.cell?,u]);have r1:dS w2 (w.heap.size+1) 1=some (aj 0):=(by simp[World.cell?,u]);have t0:w2.frozen? (ay (w.heap.size+1) 0)=false:=(by simp[World.frozen?,u]);have t1:w2.frozen? (ay (w.heap.size+1) 1)=false:=(by simp[World.frozen?,u]);clear G u)
 all_goals
  go_wp2
  refine dg (v:=vA y) (by simp[results,results159,go_sem,r0,r1]) rfl ⟨rfl,?_⟩;have a2:=ar Z o;repeat (first|exact a2|refine bo ?_|refine ax ?_ _|refine bu ?_ (ah eB) _)
def pc(v:B.V)(f:Fb)(M:Nat->List B.V):Value:=if v.1=0\/f.k v.1≠0 then .tuple #[.int .i64 0,.bool false] else .tuple #[.int .i64 (M v.1).length,.bool true]
theorem BZ(sb pb eb n:Nat)(v:B.V)(kd:B.Kd)(vb:Vs)(M:Nat->List B.V)(w:aa)(hS:kD w sb pb eb n kd vb M)(hn:n<=200)(hv:B.sG kd.on n v): Calls prog 200 #[P0 sb,vA v] w λe w'=>w.grownBy w' none/\e=.returned (pc v vb.f M):=by
 change Hid _ at hS;obtain⟨v1,v2⟩:=v;rcases hv with hv|⟨y,u,H,Y⟩
 .have hv:v1=0:=hv;subst hv;have G:pc (0,v2) vb.f M=.tuple #[aj 0,.bool false]:=by unfold pc;rw[bf (af rfl)]
  rw[G];go_in;go_wp2_with fail
  refine du (sV sb v2 _) λw1 o=>?_;have Z:=bj (ar (ak w _ none) o);clear o;go_wp2
  go_ret2
  exact⟨ax Z _,rfl⟩
 obtain⟨k,hk⟩:∃k,v1=k+1:=⟨v1-1,ag⟩;subst hk;have i:kd.on (k+1)=true:=H;have a0:k<n:=ag
 have W:=λw' (hS:kD w' sb pb eb n kd vb M)=>sU sb pb n k v2 kd.on vb.f M w' hS.c0 (ch hS.b) hS.p a0 hn;have e2:qo (kd.on (k+1)) (vb.f.b (k+1)) (M (k+1)).length=dA (vb.f.b (k+1)) (M (k+1)).length (M (k+1)).length:=jx i
 by_cases J:vb.f.k (k+1)=0
 .have e0:vz (kd.on (k+1)) (vb.f.k (k+1))=dy 1:=by rw[i,J];rfl
  have G:pc (k+1,v2) vb.f M=.tuple #[aj (M (k+1)).length,.bool true]:=by unfold pc;rw[au (λh=>h.elim (λh=>by cases h) (λh=>h J))]
  rw[G];rw[e0,e2]at W;generalize ((E9 (kd.on (k+1)) (vb.f.k (k+1)):Nat):Int)=y1 at *;generalize (M (k+1)).length=m at *;generalize vb.f.b (k+1)=g at *;change Hid _ at W;clear e0 e2 y u H Y i G J;go_in;go_wp2_with fail
  refine du (W _ (hS.kept (ak _ _ _))) λw1 o=>?_;have Z:=bj (ar (ak w _ none) o);clear o;go_wp2
  go_ret2
  exact⟨ax Z _,rfl⟩
 have e0:vz (kd.on (k+1)) (vb.f.k (k+1))=dy 2:=by rw[i];unfold vz JM;rw[bf rfl,au J];rfl
 have G:pc (k+1,v2) vb.f M=.tuple #[aj 0,.bool false]:=by unfold pc;rw[bf (ah J)]
 rw[G];rw[e0,e2]at W;generalize ((E9 (kd.on (k+1)) (vb.f.k (k+1)):Nat):Int)=y1 at *;generalize (M (k+1)).length=m at *;generalize vb.f.b (k+1)=g at *;have W:=bj W;clear W e0 e2 y u H Y i G J;go_in;go_wp2_with fail
 refine du (W _ (hS.kept (ak _ _ _))) λw1 o=>?_;have Z:=bj (ar (ak w _ none) o);clear o;go_wp2
 go_ret2
 exact⟨ax Z _,rfl⟩
def qy{W:aa}{o:Obj}{b i:Nat}(h:b<W.heap.size):(W.alloc o).cell? (ay b i)=W.cell? (ay b i):=(bd (ak W o none) (a:=ay b i) h).1
def rk(v:B.V)(f:Fb)(M:Nat->List B.V):Value:=if v.1=0\/f.k v.1=0 then .tuple #[.int .i64 0,vA (0,0),.bool false] else .tuple #[.int .i64 ((f.k v.1-1:Nat):Int),vA ((M v.1).getD 0 (0,0)),.bool true]
theorem xv(sb pb eb n:Nat)(v:B.V)(kd:B.Kd)(vb:Vs)(M:Nat->List B.V)(w:aa)(hS:kD w sb pb eb n kd vb M)(hn:n<=200)(hv:B.sG kd.on n v): Calls prog 162 #[P0 sb,vA v] w λe w'=>w.grownBy w' none/\e=.returned (rk v vb.f M):=by
 have KS:=bj hS;obtain⟨v1,H⟩:=v;rcases hv with hv|⟨W,J,a0,a1⟩
 .have hv:v1=0:=hv;subst hv;have Y:rk (0,H) vb.f M=.tuple #[aj 0,vA (0,0),.bool false]:=by unfold rk;rw[bf (af rfl)]
  rw[Y];go_in;go_wp2_with fail
  refine du (sV sb H _) λw1 o=>?_;have G:=bj (ar (ax (ak w _ none) _) o);have hz:=o.size;have u:w1.heap[w.heap.size+1]? = some (.cells #[aj 0,aj 0] 149 (0,0)):=by
   refine(o.block _ eB eR).trans ?_;have:=bl (w.alloc (.cells #[aj ((0:Nat):Int),aj H] 149)) (.cells #[aj 0,aj 0] 149);simpa using this
  have r0:dS w1 (w.heap.size+1) 0=some (aj 0):=fy u
  have r1:dS w1 (w.heap.size+1) 1=some (aj 0):=fy u
  have t0:w1.frozen? (ay (w.heap.size+1) 0)=false:=qE u
  have t1:w1.frozen? (ay (w.heap.size+1) 1)=false:=qE u
  have lx:=ch u;clear o u;go_wp2
  refine dg (v:=.tuple #[aj 0,vA (0,0),.bool false]) (by simp[results,results162,go_sem,qy,lx,r0,r1]) rfl ⟨?_,rfl⟩;repeat (first|exact G|refine bo ?_|refine ax ?_ _|refine bu ?_ (ah eB) _)
 obtain⟨k,hk⟩:∃k,v1=k+1:=⟨v1-1,ag⟩;subst hk;have i:kd.on (k+1)=true:=a0;have a5:k<n:=ag
 have ha:=λw' (hS:kD w' sb pb eb n kd vb M)=>sU sb pb n k H kd.on vb.f M w' hS.c0 (ch hS.b) hS.p a5 hn;have e2:qo (kd.on (k+1)) (vb.f.b (k+1)) (M (k+1)).length=dA (vb.f.b (k+1)) (M (k+1)).length (M (k+1)).length:=jx i
 have a4:∀w1:aa,((w.alloc (.cells #[aj ((k:Int)+1),aj H] 149)).alloc (.cells #[aj 0,aj 0] 149)).grownBy w1 none->dS w1 (w.heap.size+1) 0=some (aj 0)/\dS w1 (w.heap.size+1) 1=some (aj 0)/\w1.frozen? (ay (w.heap.size+1) 0)=false/\w1.frozen? (ay (w.heap.size+1) 1)=false/\w.heap.size+1<w1.heap.size:=λw1 o=>by
  have u:w1.heap[w.heap.size+1]? = some (.cells #[aj 0,aj 0] 149 (0,0)):=by
   refine(o.block _ eB eR).trans ?_;have:=bl (w.alloc (.cells #[aj ((k:Int)+1),aj H] 149)) (.cells #[aj 0,aj 0] 149);simpa using this
  grind[World.cell?,World.frozen?,ch]
 have a2:=bj a4;by_cases Z:vb.f.k (k+1)=0
 .have e0:vz (kd.on (k+1)) (vb.f.k (k+1))=dy 1:=by rw[i,Z];rfl
  have Y:rk (k+1,H) vb.f M=.tuple #[aj 0,vA (0,0),.bool false]:=by unfold rk;rw[bf (ah Z)]
  rw[Y];rw[e0,e2]at ha;generalize ((E9 (kd.on (k+1)) (vb.f.k (k+1)):Nat):Int)=y1 at *;generalize (M (k+1)).length=m at *;generalize vb.f.b (k+1)=g at *;change Hid _ at ha;clear e0 e2 W J a0 a1 i Y Z;go_in;go_wp2_with fail
  refine du (ha _ (KS.kept (ax (ak _ _ _) _))) λw1 o=>?_;have G:=bj (ar (ax (ak w _ none) _) o);obtain⟨r0,r1,t0,t1,lx⟩:=a2 w1 o;clear o;go_wp2
  refine dg (v:=.tuple #[aj 0,vA (0,0),.bool false]) (by simp[results,results162,go_sem,qy,lx,r0,r1]) rfl ⟨?_,rfl⟩;repeat (first|exact G|refine bo ?_|refine ax ?_ _|refine bu ?_ (ah eB) _)
 have e0:vz (kd.on (k+1)) (vb.f.k (k+1))=dy 2:=by rw[i];unfold vz JM;rw[bf rfl,au Z];rfl
 have e1:E9 (kd.on (k+1)) (vb.f.k (k+1))=vb.f.k (k+1)-1:=jx i
 have a3:=KS.p.k _ i Z;have Y:rk (k+1,H) vb.f M=.tuple #[aj ((vb.f.k (k+1)-1:Nat):Int),vA ((M (k+1)).getD 0 (0,0)),.bool true]:=by unfold rk;rw[au (λh=>h.elim (λh=>by cases h) (λh=>Z h))]
 have hF:=KS.p.s (k+1) ag ag i;have s0:=hF.cell 0 ag;have s1:=hF.cell 1 ag;have q0:eQ (lM M (k+1)) 0=aj (((M (k+1)).getD 0 (0,0)).1:Int):=rfl;have q1:eQ (lM M (k+1)) 1=aj ((M (k+1)).getD 0 (0,0)).2:=rfl;rw[q0]at s0;rw[q1]at s1;have lf:=hF.lt;rw[Y];rw[e0,e1,e2,a3]at ha;generalize (M (k+1)).getD 0 (0,0)=y at *;generalize vb.f.k (k+1)-1=ff at *;generalize vb.f.b (k+1)=g at *;have ha:=bj ha;clear ha e0 e1 e2 W J a0 a1 i Y Z hF a3 q0 q1;go_in;go_wp2_with fail
 refine du (ha _ (KS.kept (ax (ak _ _ _) _))) λw1 o=>?_;have G:=bj (ar (ax (ak w _ none) _) o);obtain⟨r0,r1,t0,t1,lx⟩:=a2 w1 o;have p0:=(bd G (a:=ay g 0) lf).1.trans s0;have p1:=(bd G (a:=ay g 1) lf).1.trans s1;have a6:=dm lf G.size;clear o s0 s1;go_wp2
 go_region
 all_goals
  go_wp2
  refine dg (v:=.tuple #[aj ff,vA y,.bool true]) (by simp[results,results162,go_sem,qy,lx,r0,r1]) rfl ⟨?_,rfl⟩;repeat (first|exact G|refine bo ?_|refine ax ?_ _|refine bu ?_ (ah eB) _)
end F
section
def MO(w w':aa)(b o:Nat)(T:TypeId)(N:Nat)(E Tk:Nat->Value)(ad:Option Addr)(n c tb:Nat)(xs:List Nat):Prop:=
 ∃g c',Ln w' b o T N (eC E o (.slice (some ⟨g,0,none⟩) (n+1) c')) (some ⟨g,0,none⟩) (n+1) c' (xs++[tb])/\Full w' tb 160 7 7 (eC (eC Tk 2 (.bool false)) 3 (Pt b o))/\dM (λk=>k=b\/k=tb\/(Value.slice ad n c).ownBlock=some k) w w'/\((Value.slice ad n c).ownBlock=some g\/w.heap.size<=g)
theorem Bl(b o c n tb N:Nat)(T:TypeId)(ad:Option Addr)(E Tk:Nat->Value)(xs:List Nat)(R:aa->Prop)(w:aa)(nb:b≠tb)(nk:∀k,(Value.slice ad n c).ownBlock=some k->k≠b/\k≠tb)(aH:n<1000000000)(H:eL 133 #[P0 tb] w λw1=>Ln w1 b o T N E ad n c xs/\Full w1 tb 160 7 7 Tk/\R w1): eL 166 #[Pt b o,aj (n:Int),P0 tb] w λw'=>∃w1,R w1/\MO w1 w' b o T N E Tk ad n c tb xs:=by
 have HH:=bj H;have HK:=bj nk;clear H nk;delta eL;go_in;go_wp2_with fail
 refine du HH ?_;rintro w1 ⟨hL,hT,hR⟩;obtain⟨a6,aD⟩:=hL.hE.cells o hL.ho;obtain⟨c2,z2⟩:=hT.cells 2 ag;obtain⟨c3,z3⟩:=hT.cells 3 ag;rw[hL.e]at a6;generalize Tk 2=y2 at c2;generalize Tk 3=y3 at c3;have le:=hL.hE.lt;have lt:=hT.lt;have W:=bj hL;have HT:=bj hT;have HR:=bj hR;have aF:¬tb=b:=λe=>nb e.symm;clear hL hT hR;go_wp2_with fail
 generalize u:((w1.setCell (ay tb 2) (.bool false)).setCell (ay tb 3) (.pointer (some (ay b o)))).alloc (.cells #[P0 tb] 155)=w2;have a8:w2.heap.size=w1.heap.size+1:=by rw[<-u];simp[World.setCell]
 have y:∀k,k≠tb->k<w1.heap.size->w2.heap[k]? = w1.heap[k]?:=λk hk aC=>by
  rw[<-u,av _ _ _ (by simp[World.setCell];exact aC),ab _ _ _ _ hk,ab _ _ _ _ hk]
 have J:Ln w2 b o T N E ad n c xs:={ hE:=W.out.hE.block (y b nb le),ho:=W.out.ho,e:=W.out.e,row:=dQ W.out.row (λk hk=>y k (HK.out k hk).2 (dP W.out.row k hk).2.1),hn:=W.out.hn };have Y:Full w2 tb 160 7 7 (eC (eC Tk 2 (.bool false)) 3 (Pt b o)):=by
  rw[<-u];exact(((HT.out.eC 2 _).eC 3 _).block (av _ _ _ (by simp[World.setCell];exact lt)))
 have a3:w2.cell? (ay w1.heap.size 0)=some (P0 tb):=by
  rw[<-u];have:=bl ((w1.setCell (ay tb 2) (.bool false)).setCell (ay tb 3) (.pointer (some (ay b o)))) (.cells #[P0 tb] 155);simp only[World.setCell,Array.size_modify]at this;simp only[World.cell?,World.setCell];rw[this];rfl
 have a7:dM (λk=>k=b\/k=tb\/(Value.slice ad n c).ownBlock=some k) w1 w2:=by
  rw[<-u];exact gP (bp (bp (dw _ _) (af (ah (af rfl))) _) (af (ah (af rfl))) _) _
 refine(D4 n 0 w1.heap.size (P0 tb) (xs.map P0) rfl w2 ad c J.row a3 ag ag).mono ?_;rintro e w3 ⟨g,c',rfl,a2,i,a0⟩;have G:=J.hE.block (i.block b J.hE.lt (λh=>(HK.out b h.symm).1 rfl));have a4:=Y.block (i.block tb Y.lt (λh=>(HK.out tb h.symm).2 rfl));have a5:=
  a7.trans (S1:=λk=>(Value.slice ad n c).ownBlock=some k) ⟨i.os,i.tape,i.output,i.size,λk hk hn=>i.block k hk (λe=>hn e.symm)⟩ (λk h _=>ah (ah h))
 have a1:g≠b/\g≠tb:=by
  rcases a0 with h|h
  .exact HK.out g h
  exact⟨ag,ag⟩
 obtain⟨aI,aG⟩:=G.cells o W.out.ho;have aB:=bj G;have aA:=bj a4;have aE:=bj a5;have Z:=bj (bh a1 (bh a0 a8));have a9:Hid (w3.ownsRow 0 155 1 (dA g (n+1) c') (n+1) ((xs++[tb]).map P0)):=by
  show World.ownsRow _ _ _ _ _ _ _;simpa using a2
 clear u y J Y a3 a7 a2 i a0 G a4 a5 a1 a6 aD c2 z2 c3 z3;go_wp2_with fail
 go_end0;refine⟨rfl,w1,HR.out,g,c',{ hE:=aB.out.eC o _,ho:=W.out.ho,e:=gO _ _ _,row:=dQ a9.out (λk h=>?_),hn:=by omega },aA.out.off (λe=>nb e.symm),bp aE.out (af (af rfl)) _,?_⟩
 .have:k=g:=by injection h with h;exact h.symm
  subst this;exact ab _ _ _ _ Z.out.1.1
 rcases Z.out.2.1 with h|h
 .exact af h
 exact ah ag
theorem LR(b o c n tb N:Nat)(T:TypeId)(ad:Option Addr)(E Tk:Nat->Value)(xs:List Nat)(R:aa->Prop)(w:aa)(G:b≠tb)(u:∀k,(Value.slice ad n c).ownBlock=some k->k≠b/\k≠tb)(i:n<1000000000)(W:w.cell? (ay b o)=some (.slice ad n c))(H:eL 133 #[P0 tb] w λw1=>Ln w1 b o T N E ad n c xs/\Full w1 tb 160 7 7 Tk/\R w1): eL 110 #[Pt b o,P0 tb] w λw'=>∃w1,R w1/\MO w1 w' b o T N E Tk ad n c tb xs:=by
 have y:=bj (Bl b o c n tb N T ad E Tk xs R w G u i H);delta eL;go_in;go_wp2_with fail
 refine du y λw1 h=>?_;have J:=bj h;go_wp2
 go_end0;exact⟨rfl,J⟩
theorem KY(op a b c fb tb eb W o:Nat)(Tk:Nat->Value)(R:aa->Prop)(w:aa)(H:∀w1,w.grownBy w1 none->w1.heap[w.heap.size]? = some (ju op a b c fb tb eb)->eL 110 #[Pt W o,P0 tb] w1 λw2=>Full w2 tb 160 7 7 Tk/\w2.heap[w.heap.size]? = some (ju op a b c fb tb eb)/\R w2): eL 171 #[ed op a b c fb tb eb,Pt W o] w λw'=>∃w2,R w2/\Full w2 tb 160 7 7 Tk/\w2.heap[w.heap.size]? = some (ju op a b c fb tb eb)/\w'=w2.setCell (ay tb 4) (Fv 207 #[P0 w.heap.size]):=by
 have HH:=bj H;delta eL;go_in;go_wp2_with fail
 refine du (HH _ (bj (ak w (.cells #[dy op,dy a,dy b,dy c,P0 fb,P0 tb,P0 eb] 186) none)).out (bj (iN w op a b c fb tb eb)).out) ?_;rintro w2 ⟨u,i,hR⟩;obtain⟨x0,x1,x2,x3,x4,x5,x6⟩:=eZ i;obtain⟨Y,z4⟩:=u.cells 4 ag;generalize Z:Tk 4=y4 at Y;have G:=bj (bh u (bh i hR));go_wp2
 go_end0;exact⟨rfl,w2,G.2.2,G.1,G.2.1,rfl⟩
theorem KM(op a b c fb tb eb sx cb L nx rb nr:Nat)(back:Value)(Q:Nat->B.V)(v:B.V)(R:aa->Prop)(w:aa)(hx:w.heap[sx]? = some (ju op a b c fb tb eb))(hf:w.heap[fb]? = some (jo cb L nx rb nr back))(hr:Full w rb 149 (nr*2) (nr*2) (eQ Q))(ha:a<nr)(le:eb<w.heap.size)(H:∀w1,w.grownBy w1 (some rb)->Full w1 rb 149 (nr*2) (nr*2) (eQ (B.set Q a v))->eL 110 #[Pt eb 32,P0 tb] w1 λw2=>R w2): eL 207 #[vA v,P0 sx] w λw'=>R w':=by
 obtain⟨x0,x1,x2,x3,x4,x5,x6⟩:=eZ hx;have lx:=ch hx
 have a0:sx≠rb:=by
  rintro rfl;obtain⟨cu,q,_⟩:=hr;have J:w.heap[sx]? = some (.cells #[dy (op:Int),dy (a:Int),dy (b:Int),dy (c:Int),P0 fb,P0 tb,P0 eb] 186 (0,0)):=hx;rw[q]at J;injection J with q2;injection q2 with _ q2 _;exact dp q2 ek
 have HH:=bj H;have HX:=bj hx;have HF:=bj hf;have HR:=bj hr;clear H hx hf hr;obtain⟨v1,v2⟩:=v;delta eL;go_in;go_wp2_with fail
 generalize hW:w.alloc (.cells #[aj (v1:Int),aj v2] 149)=w1;have Z:Hid (w.grownBy w1 none):=by rw[<-hW];exact ak _ _ _
 refine du (kH op a b c fb tb eb cb L nx rb nr back Q (v1,v2) w1 (dv Z.out HF.out) (HR.out.block (Z.out.block rb HR.out.lt im)) ha) ?_;rintro w2 ⟨G,o⟩;have hG:=ar (mN Z.out rb) G;have i:=da hG HX.out (by intro e;injection e with e;exact a0 e);obtain⟨y0,y1,y2,y3,y4,y5,y6⟩:=eZ i;have HJ:Hid (∀W,w2.grownBy W none->eL 110 #[Pt eb 32,P0 tb] W λw'=>R w'):=λW u=>HH.out W (ar hG (mN u rb)) (o.block (u.block rb o.lt im));clear G o hG i hW x0 x1 x2 x3 x4 x5 x6;go_wp2_with fail
 go_region_with (go_at_call 110;refine du (HJ.out w2.drew (bo (aw _ _))) λw4 y=>?_;have a1:=bj y;clear y)
 all_goals
  go_wp2_with fail
  go_end0;exact⟨rfl,a1.out⟩
end
namespace F
def mJ(f:Fb)(M:Nat->List B.V)(x y:B.V):Prop:=x.1≠0/\f.k x.1=0/\y.1=0/\0<=y.2/\y.2<((M x.1).length:Int)
def iP(f:Fb)(x y:B.V):Nat:=if x.1=0\/f.k x.1≠0 then 2 else if y.1≠0 then 1 else 3
theorem uf(f:Fb)(x y:B.V):1<=iP f x y/\iP f x y<=3:=by grind[iP]
def Ij(f:Fb)(M:Nat->List B.V)(x y:B.V)(v:Value):Prop:=
 (mJ f M x y/\v=.tuple #[.int .i64 y.2,.int .i64 0])\/(¬mJ f M x y/\v=.tuple #[.int .i64 0,.int .i64 (iP f x y)])
theorem yf(op a b c fb tb eb sb pb n:Nat)(x y:B.V)(kd:B.Kd)(vb:Vs)(M:Nat->List B.V)(w:aa)(hS:kD w sb pb eb n kd vb M)(hn:n<=200)(hx:B.sG kd.on n x)(aE:w.cell? (ay eb 27)=some (P0 sb))(le:eb<w.heap.size): Calls prog 158 #[ed op a b c fb tb eb,vA x,vA y] w λe w'=>∃v,e=.returned v/\w.grownBy w' none/\Ij vb.f M x y v:=by
 have KS:=bj hS;have HX:=bj hx;obtain⟨u,G⟩:=y;have a2:x.1≠0->(M x.1).length<=8:=λh0=>by
  rcases hx with h|h
  .omega
  exact hS.p.l _ h.2.2.1
 clear hS hx;go_in;go_wp2_with fail
 generalize hW:((w.alloc (.cells #[dy op,dy a,dy b,dy c,P0 fb,P0 tb,P0 eb] 186)).alloc (.cells #[aj x.1,aj x.2] 149)).alloc (.cells #[aj u,aj G] 149)=w1;have a0:Hid (w.grownBy w1 none):=by rw[<-hW];exact ax (ax (ak _ _ _) _) _
 have a1:w1.heap[w.heap.size]? = some (ju op a b c fb tb eb):=by rw[<-hW,av _ _ _ fH,av _ _ _ eB];exact bl w _
 have Y:w1.heap[w.heap.size+1]? = some (.cells #[aj x.1,aj x.2] 149 (0,0)):=by
  rw[<-hW,av _ _ _ eB];have:=bl (w.alloc (.cells #[dy op,dy a,dy b,dy c,P0 fb,P0 tb,P0 eb] 186)) (.cells #[aj x.1,aj x.2] 149);simpa using this
 have o:w1.heap[w.heap.size+1+1]? = some (.cells #[aj u,aj G] 149 (0,0)):=by
  rw[<-hW];have:=bl ((w.alloc (.cells #[dy op,dy a,dy b,dy c,P0 fb,P0 tb,P0 eb] 186)).alloc (.cells #[aj x.1,aj x.2] 149)) (.cells #[aj u,aj G] 149);simpa using this
 clear hW;have H3:=bj o;have x6:=(eZ a1).2.2.2.2.2.2;have c0:dS w1 (w.heap.size+1) 0=some (aj x.1):=fy Y
 have c1:dS w1 (w.heap.size+1) 1=some (aj x.2):=fy Y
 obtain⟨a4,_⟩:=bd a0 (a:=ay eb 27) le;rw[aE]at a4;have aB:=ch a1;have a9:=ch Y;have aM:=ch o;have aG:eb<w1.heap.size:=ag
 clear a1 Y o;have HS:Hid (∀w':aa,w1.grownBy w' none->dS w' w.heap.size 6=some (P0 eb)/\dS w' eb 27=some (P0 sb)/\dS w' (w.heap.size+1) 0=some (aj x.1)/\dS w' (w.heap.size+1) 1=some (aj x.2)):=
  λw' hg=>⟨(bd hg (a:=ay w.heap.size 6) aB).1.trans x6,(bd hg (a:=ay eb 27) aG).1.trans a4,(bd hg (a:=ay (w.heap.size+1) 0) a9).1.trans c0,(bd hg (a:=ay (w.heap.size+1) 1) a9).1.trans c1⟩
 go_region_held3 (λw'=>dS w' w.heap.size 6=some (P0 eb)/\dS w' eb 27=some (P0 sb)/\dS w' (w.heap.size+1) 0=some (aj x.1)/\dS w' (w.heap.size+1) 1=some (aj x.2)) (first|exact HS _ (bo (aw _ _))|exact HS _ a3) (first|(go_at_call 200;refine(BZ sb pb eb n x kd vb M w1.drew (KS.kept (bo a0)) hn HX).mono ?_;rintro e w2 ⟨J,hc⟩;have a3:Hid (w1.grownBy w2 none):=⟨J.os,J.tape,J.output,J.size,J.block⟩;obtain⟨n2,ob,rfl,a7⟩:∃(n2:Int) (ob:Bool),e=.returned (.tuple #[aj n2,.bool ob])/\(((x.1=0\/vb.f.k x.1≠0)/\ob=false)\/((x.1≠0/\vb.f.k x.1=0)/\ob=true/\n2=((M x.1).length:Int))):=(by unfold pc at hc;split at hc;exact⟨_,_,hc,af ⟨pZ,rfl⟩⟩;exact⟨_,_,hc,ah ⟨⟨λh=>(by rename_i hh;exact hh (af h)),(by rename_i hh;exact Classical.byContradiction λh=>hh (ah h))⟩,rfl,rfl⟩⟩);have aC:=bj a7;clear hc a7 J))
 all_goals
  have o:=dv a3 H3;have e0:dS w2 (w.heap.size+1+1) 0=some (aj u):=fy o
  have e1:dS w2 (w.heap.size+1+1) 1=some (aj G):=fy o
  have a6:=bj (ar a0 a3);clear o x6 c0 c1 a4;rcases aC with⟨h1,rfl⟩|⟨h1,rfl,rfl⟩
  .have H:=bj (show ¬mJ vb.f M x (u,G)/\iP vb.f x (u,G)=2 from⟨λh=>h1.elim h.1 (λg=>g h.2.1),by unfold iP;rw[bf h1]⟩);clear h1 a2;go_wp2
   go_ret2
   exact⟨_,rfl,a6,ah ⟨H.1,jx H.2⟩⟩
  have hl:=a2 h1.1;change Hid _ at h1;clear a2;go_wp2_with fail
  refine du (gk (u,G) _) λw3 a5=>?_;have Z:=bj (ar a6 a5);clear a5 e0 e1;generalize aA:(M x.1).length=ln at *;have a8:=bj aA;clear aA;by_cases W:u=0
  .have hd:decide (u=0)=true:=gG W
   simp only[hd];by_cases h0:G<0
   .have H:=bj (show ¬mJ vb.f M x (u,G)/\iP vb.f x (u,G)=3 from⟨λh=>by have:(0:Int)<=G:=h.2.2.2.1;omega,by unfold iP;rw[au (λg=>g.elim h1.1 (λg=>g h1.2)),au (λg=>g W)]⟩)
    clear W hd;go_wp2
    go_ret2
    exact⟨_,rfl,Z,ah ⟨H.1,jx H.2⟩⟩
   obtain⟨i,hi⟩:∃i:Nat,G=i:=⟨G.toNat,ag⟩;subst hi;by_cases aJ:i<ln
   .have H:=bj (show mJ vb.f M x (u,(i:Int)) from⟨h1.1,h1.2,W,by show(0:Int)<=i;omega,by show(i:Int)<_;rw[a8.out];omega⟩)
    have aF:decide ((i:Int)<0)=false:=eB
    clear W hd h0;go_wp2
    go_ret2
    exact⟨_,rfl,Z,af ⟨H,rfl⟩⟩
   have H:=bj (show ¬mJ vb.f M x (u,(i:Int))/\iP vb.f x (u,(i:Int))=3 from⟨λh=>by have:(i:Int)<_:=h.2.2.2.2;rw[a8.out]at this;omega,by unfold iP;rw[au (λg=>g.elim h1.1 (λg=>g h1.2)),au (λg=>g W)]⟩)
   have aF:decide ((i:Int)<0)=false:=eB
   have aH:(ln:Int)<=i:=ag
   clear W hd h0;go_wp2
   go_ret2
   exact⟨_,rfl,Z,ah ⟨H.1,jx H.2⟩⟩
  have hd:decide (u=0)=false:=gG W
  simp only[hd];have H:=bj (show ¬mJ vb.f M x (u,G)/\iP vb.f x (u,G)=1 from⟨λh=>W h.2.2.1,by unfold iP;rw[au (λg=>g.elim h1.1 (λg=>g h1.2)),bf W]⟩);clear W hd;go_wp2
  go_ret2
  exact⟨_,rfl,Z,ah ⟨H.1,jx H.2⟩⟩
