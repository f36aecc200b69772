import Derived.Test.YtnjiinbhbjpfkaaGreatDoorTF
import Derived.Test.YtnjiinbhbjpfkaaGreatDoorTD
import Derived.Test.YtnjiinbhbjpfkaaGreatDoorTE
set_option maxRecDepth 100000
set_option maxHeartbeats 0
set_option linter.all false
namespace Go.Proofs.YtnjiinbhbjpfkaaGreatDoor
open Go.RowKit Go.Proofs.Tryz
namespace F
variable {ad:Option Addr}{cap cb eb pb sb:Nat}{f:Fb}{on:Nat->Bool}{vb:Vs}{w:aa}
def sU(sb pb n k:Nat)(x:Int)(on:Nat->Bool)(f:Fb)(M:Nat->List B.V)(w:aa)(h0:w.cell? (ay sb 0)=some (dA pb n n))(ls:sb<w.heap.size)(hP:oW w pb n on f M)(hk:k<n)(hn:n<=200): dD 202 #[P0 sb,vA (k+1,x)] w (.agg #[vz (on (k+1)) (f.k (k+1)),aj (E9 (on (k+1)) (f.k (k+1)):Nat),qo (on (k+1)) (f.b (k+1)) (M (k+1)).length]) λw'=>w.grownBy w' none:=by
 have hi:=oE (k+1,x);have hd:decide (k+1≠0)=true:=eB
 rw[show((k+1,x):B.V).1=k+1 from rfl,hd]at hi;change Hid _ at hi;have lp:=hP.p.lt;have c0:=hP.p.cell (k*3) ag;have c1:=hP.p.cell (k*3+1) ag;have c2:=hP.p.cell (k*3+2) ag;rw[A3]at c0;rw[A2]at c1;rw[uu]at c2;clear hP hd;obtain⟨y0,Z⟩:∃y,vz (on (k+1)) (f.k (k+1))=dy y:=⟨_,rfl⟩;generalize ((E9 (on (k+1)) (f.k (k+1)):Nat):Int)=y1 at *;obtain⟨a2,n2,m2,a0⟩:∃a n m,qo (on (k+1)) (f.b (k+1)) (M (k+1)).length=.slice a n m:=by grind[qo]
 rw[Z]at c0 ⊢;rw[a0]at c2 ⊢;clear Z a0;have a4:(k:Int)<n:=ag
 delta dD;go_in;go_wp2_with fail
 refine du (hi _) λw1 Y=>?_;have hz:=Y.size;simp at hz;have hx:w1.heap[w.heap.size+1]? = some (.cells #[dy 0,aj 0,.slice none 0 0] 228 (0,0)):=by
  refine(Y.block _ eB eR).trans ?_;have:=bl (w.alloc (.cells #[aj ((k:Int)+1),aj x] 149)) (.cells #[dy 0,aj 0,.slice none 0 0] 228);simpa using this
 have hv:w1.heap[w.heap.size]? = some (.cells #[aj ((k:Int)+1),aj x] 149 (0,0)):=by
  refine(Y.block _ fH eR).trans ?_;rw[av _ _ _ eB];exact bl w _
 have W:=bj (ar (ax (ak w _ none) _) Y);have v0:dS w1 w.heap.size 0=some (aj ((k:Int)+1)):=fy hv
 have v1:dS w1 w.heap.size 1=some (aj x):=fy hv
 have HX:=bj hx;have d0:=(bd W (a:=ay sb 0) ls).1.trans h0;have p0:=(bd W (a:=ay pb (k*3)) lp).1.trans c0;have p1:=(bd W (a:=ay pb (k*3+1)) lp).1.trans c1;have p2:=(bd W (a:=ay pb (k*3+2)) lp).1.trans c2;have J:sb<w1.heap.size:=ag
 have G:pb<w1.heap.size:=ag
 clear Y hx hz hv h0 c0 c1 c2;have H:=bj (bh p0 (bh p1 p2));clear p0 p1 p2;go_wp2
 go_region_with (go_at_call 201;refine du ((bj (nT k x ag)).out w1.drew) λw2 u=>?_;have i:Hid (w1.grownBy w2 none):=⟨u.os,u.tape,u.output,u.size,u.block⟩;have d2:=(bd i (a:=ay sb 0) J).1.trans d0;have p0:=(bd i (a:=ay pb (k*3)) G).1.trans H.1;have p1:=(bd i (a:=ay pb (k*3+1)) G).1.trans H.2.1;have p2:=(bd i (a:=ay pb (k*3+2)) G).1.trans H.2.2;have o:=da i HX im;have r0:dS w2 (w.heap.size+1) 0=some (dy 0):=(by simp[World.cell?,o]);have r1:dS w2 (w.heap.size+1) 1=some (aj 0):=(by simp[World.cell?,o]);have r2:dS w2 (w.heap.size+1) 2=some (.slice none 0 0):=(by simp[World.cell?,o]);have t0:w2.frozen? (ay (w.heap.size+1) 0)=false:=(by simp[World.frozen?,o]);have t1:w2.frozen? (ay (w.heap.size+1) 1)=false:=(by simp[World.frozen?,o]);have t2:w2.frozen? (ay (w.heap.size+1) 2)=false:=(by simp[World.frozen?,o]);clear u o)
 all_goals
  go_wp2
  refine dg (v:=.agg #[dy y0,aj y1,.slice a2 n2 m2]) (by simp[results,results202,go_sem,r0,r1,r2]) rfl ⟨rfl,?_⟩;have a1:=ar W i;repeat (first|exact a1|refine bo ?_|refine ax ?_ _|refine bu ?_ (ah eB) _)
def vB(pb n:Nat)(on:Nat->Bool)(f:Fb)(M:Nat->List B.V)(w:aa)(hS:oW w pb n on f M)(hn:n<=200): Calls prog 229 #[dA pb n n,Fv 140 #[]] w λe w'=>w.grownBy w' none/\((∃k:Nat,k<n/\on (k+1)=false/\e=.returned (aj k))\/((∀p,1<=p->p<=n->on p=true)/\e=.returned (aj (-1)))):=by
 have KS:=bj hS;go_in;go_wp2
 go_loopw [8] (λi wr=>∃k:Nat,k<=n/\i=aj k/\Hid (∀p,1<=p->p<=k->on p=true)/\Hid (w.grownBy wr none)) (λi _=>n-(intOf i).toNat)
 case atStart=>exact⟨0,ag,rfl,λp h1 h2=>(by omega),aw _ _⟩
 case round=>
  obtain⟨k,hk,rfl,hK,hG⟩:=hrel;by_cases W:k<n
  .have hS:=KS.kept hG;have c0:=hS.p.cell (k*3) ag;have c1:=hS.p.cell (k*3+1) ag;have Z:=hS.p.cell (k*3+2) ag;rw[A3]at c0;rw[A2]at c1;rw[uu]at Z;have Y:=Am (on (k+1)) (f.k (k+1)) (E9 (on (k+1)) (f.k (k+1)):Nat) (qo (on (k+1)) (f.b (k+1)) (M (k+1)).length);obtain⟨y0,o⟩:∃y,vz (on (k+1)) (f.k (k+1))=dy y:=⟨_,rfl⟩;generalize ((E9 (on (k+1)) (f.k (k+1)):Nat):Int)=y1 at *;obtain⟨a2,n2,m2,u⟩:∃a n m,qo (on (k+1)) (f.b (k+1)) (M (k+1)).length=.slice a n m:=by grind[qo]
   rw[o]at c0;rw[u]at Z;rw[o,u]at Y;have HF:=bj Y;have a0:(k:Int)<n:=ag
   go_wp2_with fail
   refine du (HF _) λw1 G=>?_;have H:=bj (ar hG G)
   cases hkd:on (k+1)
   .have J:=bj hkd;simp only[Bool.not_false];go_wp2
    go_ret;exact⟨H,af ⟨k,W,J,rfl⟩⟩
   have J:=bj hkd;simp only[Bool.not_true];go_wp2
   go_roundw
   case rel=>
    refine⟨k+1,ag,iA,λp h1 h2=>?_,H⟩;by_cases e:p=k+1
    .grind
    exact hK p h1 ag
   case measure=>simp[intOf];omega
  obtain rfl:k=n:=by omega
  go_wp2
  go_ret;exact⟨hG,ah ⟨hK,rfl⟩⟩
def qf(sb pb n:Nat)(on:Nat->Bool)(f:Fb)(M:Nat->List B.V)(w:aa)(H:w.cell? (ay sb 0)=some (dA pb n n))(hS:oW w pb n on f M)(hn:n<=200): Calls prog 218 #[P0 sb] w λe w'=>w.grownBy w' none/\((∃k:Nat,k<n/\on (k+1)=false/\e=.returned (aj k))\/((∀p,1<=p->p<=n->on p=true)/\e=.returned (aj (-1)))):=by
 have G:=bj (vB pb n on f M w hS hn);go_in;go_wp2_with fail
 refine G.mono ?_;rintro e w1 ⟨u,⟨k,o,y,rfl⟩|⟨o,rfl⟩⟩
 .have i:=bj (bh u (bh o y));go_wp2
  go_ret;exact⟨i.1,af ⟨k,i.2.1,i.2.2,rfl⟩⟩
 have i:=bj (bh u o);go_wp2
 go_ret;simp_all
def kD.c0{n:Nat}{kd:B.Kd}{M:Nat->List B.V}(h:kD w sb pb eb n kd vb M):w.cell? (ay sb 0)=some (dA pb n n):=by simp[World.cell?,h.b]
def zP(sb pb eb n k i:Nat)(x:Int)(kd:B.Kd)(vb:Vs)(M:Nat->List B.V)(w:aa)(hS:kD w sb pb eb n kd vb M)(hn:n<=200)(hk:k<n)(J:kd.on (k+1)=true)(hi:i<(M (k+1)).length): dD 159 #[P0 sb,vA (k+1,x),aj i] w (vA ((M (k+1)).getD i (0,0))) λw'=>w.grownBy w' none:=by
 have h0:=hS.c0;have ls:=ch hS.b;have lp:=hS.p.p.lt;have c2:=hS.p.p.cell (k*3+2) ag;rw[uu,J]at c2;have hF:=hS.p.s (k+1) ag ag J;have lf:=hF.lt;have s0:=hF.cell (i*2) ag;have s1:=hF.cell (i*2+1) ag;rw[ph]at s0;rw[pf]at s1;have Y:qo true (vb.f.b (k+1)) (M (k+1)).length=dA (vb.f.b (k+1)) (M (k+1)).length (M (k+1)).length:=rfl;rw[Y]at c2;have a6:=hS.p.l _ J;show dD 159 #[P0 sb,vA (k+1,x),aj i] w (vA (lM M (k+1) i)) λw'=>w.grownBy w' none;generalize lM M (k+1) i=y at *;generalize (M (k+1)).length=m at *;generalize vb.f.b (k+1)=g at *;clear hS Y hF;have a3:(k:Int)<n:=ag
 have a9:(i:Int)<m:=ag
 delta dD;go_in;go_wp2_with fail
 generalize hW:(w.alloc (.cells #[aj ((k:Int)+1),aj x] 149)).alloc (.cells #[aj 0,aj 0] 149)=w1;have Z:Hid (w.grownBy w1 none):=by rw[<-hW];exact ax (ak _ _ _) _
 have hz:w1.heap.size=w.heap.size+2:=by rw[<-hW];simp
 have hx:w1.heap[w.heap.size+1]? = some (.cells #[aj 0,aj 0] 149 (0,0)):=by
  rw[<-hW];have:=bl (w.alloc (.cells #[aj ((k:Int)+1),aj x] 149)) (.cells #[aj 0,aj 0] 149);simpa using this
 have hv:w1.heap[w.heap.size]? = some (.cells #[aj ((k:Int)+1),aj x] 149 (0,0)):=by
  rw[<-hW,av _ _ _ eB];exact bl w _
 clear hW;have v0:dS w1 w.heap.size 0=some (aj ((k:Int)+1)):=fy hv
 have v1:dS w1 w.heap.size 1=some (aj x):=fy hv
 have HX:=bj hx;have d0:=(bd Z (a:=ay sb 0) ls).1.trans h0;have p2:=(bd Z (a:=ay pb (k*3+2)) lp).1.trans c2;have q0:=(bd Z (a:=ay g (i*2)) lf).1.trans s0;have q1:=(bd Z (a:=ay g (i*2+1)) lf).1.trans s1;have W:sb<w1.heap.size:=ag
 have a0:pb<w1.heap.size:=ag
 have H:g<w1.heap.size:=ag
 have HQ:=bj (bh p2 (bh q0 q1));clear hx hv h0 c2 s0 s1 p2 q0 q1 hz;go_region_with (go_at_call 201;refine du ((bj (nT k x ag)).out w1.drew) λw2 G=>?_;have o:Hid (w1.grownBy w2 none):=⟨G.os,G.tape,G.output,G.size,G.block⟩;have d2:=(bd o (a:=ay sb 0) W).1.trans d0;have p2:=(bd o (a:=ay pb (k*3+2)) a0).1.trans HQ.1;have q0:=(bd o (a:=ay g (i*2)) H).1.trans HQ.2.1;have q1:=(bd o (a:=ay g (i*2+1)) H).1.trans HQ.2.2;have u:=da o HX im;have r0:dS w2 (w.heap.size+1) 0=some (aj 0):=(by simp[World.cell?,u]);have r1:dS w2 (w.heap.size+1) 1=some (aj 0):=(by simp[World.cell?,u]);have t0:w2.frozen? (ay (w.heap.size+1) 0)=false:=(by simp[World.frozen?,u]);have t1:w2.frozen? (ay (w.heap.size+1) 1)=false:=(by simp[World.frozen?,u]);clear G u)
 all_goals
  go_wp2
  refine dg (v:=vA y) (by simp[results,results159,go_sem,r0,r1]) rfl ⟨rfl,?_⟩;have a2:=ar Z o;repeat (first|exact a2|refine bo ?_|refine ax ?_ _|refine bu ?_ (ah eB) _)
def pc(v:B.V)(f:Fb)(M:Nat->List B.V):Value:=if v.1=0\/f.k v.1≠0 then .tuple #[.int .i64 0,.bool false] else .tuple #[.int .i64 (M v.1).length,.bool true]
def BZ(sb pb eb n:Nat)(v:B.V)(kd:B.Kd)(vb:Vs)(M:Nat->List B.V)(w:aa)(hS:kD w sb pb eb n kd vb M)(hn:n<=200)(hv:B.sG kd.on n v): Calls prog 200 #[P0 sb,vA v] w λe w'=>w.grownBy w' none/\e=.returned (pc v vb.f M):=by
 change Hid _ at hS;obtain⟨v1,v2⟩:=v;rcases hv with hv|⟨y,u,H,Y⟩
 .have hv:v1=0:=hv;subst hv;have G:pc (0,v2) vb.f M=.tuple #[aj 0,.bool false]:=by unfold pc;rw[bf (af rfl)]
  rw[G];go_in;go_wp2_with fail
  refine du (sV sb v2 _) λw1 o=>?_;have Z:=bj (ar (ak w _ none) o);clear o;go_wp2
  go_ret2
  exact⟨ax Z _,rfl⟩
 obtain⟨k,hk⟩:∃k,v1=k+1:=⟨v1-1,ag⟩;subst hk;have i:kd.on (k+1)=true:=H;have a0:k<n:=ag
 have W:=λw' (hS:kD w' sb pb eb n kd vb M)=>sU sb pb n k v2 kd.on vb.f M w' hS.c0 (ch hS.b) hS.p a0 hn;have e2:qo (kd.on (k+1)) (vb.f.b (k+1)) (M (k+1)).length=dA (vb.f.b (k+1)) (M (k+1)).length (M (k+1)).length:=jx i
 by_cases J:vb.f.k (k+1)=0
 .have e0:vz (kd.on (k+1)) (vb.f.k (k+1))=dy 1:=by rw[i,J];rfl
  have G:pc (k+1,v2) vb.f M=.tuple #[aj (M (k+1)).length,.bool true]:=by unfold pc;rw[au (λh=>h.elim (λh=>by cases h) (λh=>h J))]
  rw[G];rw[e0,e2]at W;generalize ((E9 (kd.on (k+1)) (vb.f.k (k+1)):Nat):Int)=y1 at *;generalize (M (k+1)).length=m at *;generalize vb.f.b (k+1)=g at *;change Hid _ at W;clear e0 e2 y u H Y i G J;go_in;go_wp2_with fail
  refine du (W _ (hS.kept (ak _ _ _))) λw1 o=>?_;have Z:=bj (ar (ak w _ none) o);clear o;go_wp2
  go_ret2
  exact⟨ax Z _,rfl⟩
 have e0:vz (kd.on (k+1)) (vb.f.k (k+1))=dy 2:=by rw[i];unfold vz JM;rw[bf rfl,au J];rfl
 have G:pc (k+1,v2) vb.f M=.tuple #[aj 0,.bool false]:=by unfold pc;rw[bf (ah J)]
 rw[G];rw[e0,e2]at W;generalize ((E9 (kd.on (k+1)) (vb.f.k (k+1)):Nat):Int)=y1 at *;generalize (M (k+1)).length=m at *;generalize vb.f.b (k+1)=g at *;have W:=bj W;clear W e0 e2 y u H Y i G J;go_in;go_wp2_with fail
 refine du (W _ (hS.kept (ak _ _ _))) λw1 o=>?_;have Z:=bj (ar (ak w _ none) o);clear o;go_wp2
 go_ret2
 exact⟨ax Z _,rfl⟩
def qy{W:aa}{o:Obj}{b i:Nat}(h:b<W.heap.size):(W.alloc o).cell? (ay b i)=W.cell? (ay b i):=(bd (ak W o none) (a:=ay b i) h).1
def rk(v:B.V)(f:Fb)(M:Nat->List B.V):Value:=if v.1=0\/f.k v.1=0 then .tuple #[.int .i64 0,vA (0,0),.bool false] else .tuple #[.int .i64 ((f.k v.1-1:Nat):Int),vA ((M v.1).getD 0 (0,0)),.bool true]
def xv(sb pb eb n:Nat)(v:B.V)(kd:B.Kd)(vb:Vs)(M:Nat->List B.V)(w:aa)(hS:kD w sb pb eb n kd vb M)(hn:n<=200)(hv:B.sG kd.on n v): Calls prog 162 #[P0 sb,vA v] w λe w'=>w.grownBy w' none/\e=.returned (rk v vb.f M):=by
 have KS:=bj hS;obtain⟨v1,H⟩:=v;rcases hv with hv|⟨W,J,a0,a1⟩
 .have hv:v1=0:=hv;subst hv;have Y:rk (0,H) vb.f M=.tuple #[aj 0,vA (0,0),.bool false]:=by unfold rk;rw[bf (af rfl)]
  rw[Y];go_in;go_wp2_with fail
  refine du (sV sb H _) λw1 o=>?_;have G:=bj (ar (ax (ak w _ none) _) o);have hz:=o.size;have u:w1.heap[w.heap.size+1]? = some (.cells #[aj 0,aj 0] 149 (0,0)):=by
   refine(o.block _ eB eR).trans ?_;have:=bl (w.alloc (.cells #[aj ((0:Nat):Int),aj H] 149)) (.cells #[aj 0,aj 0] 149);simpa using this
  have r0:dS w1 (w.heap.size+1) 0=some (aj 0):=fy u
  have r1:dS w1 (w.heap.size+1) 1=some (aj 0):=fy u
  have t0:w1.frozen? (ay (w.heap.size+1) 0)=false:=qE u
  have t1:w1.frozen? (ay (w.heap.size+1) 1)=false:=qE u
  have lx:=ch u;clear o u;go_wp2
  refine dg (v:=.tuple #[aj 0,vA (0,0),.bool false]) (by simp[results,results162,go_sem,qy,lx,r0,r1]) rfl ⟨?_,rfl⟩;repeat (first|exact G|refine bo ?_|refine ax ?_ _|refine bu ?_ (ah eB) _)
 obtain⟨k,hk⟩:∃k,v1=k+1:=⟨v1-1,ag⟩;subst hk;have i:kd.on (k+1)=true:=a0;have a5:k<n:=ag
 have ha:=λw' (hS:kD w' sb pb eb n kd vb M)=>sU sb pb n k H kd.on vb.f M w' hS.c0 (ch hS.b) hS.p a5 hn;have e2:qo (kd.on (k+1)) (vb.f.b (k+1)) (M (k+1)).length=dA (vb.f.b (k+1)) (M (k+1)).length (M (k+1)).length:=jx i
 have a4:∀w1:aa,((w.alloc (.cells #[aj ((k:Int)+1),aj H] 149)).alloc (.cells #[aj 0,aj 0] 149)).grownBy w1 none->dS w1 (w.heap.size+1) 0=some (aj 0)/\dS w1 (w.heap.size+1) 1=some (aj 0)/\w1.frozen? (ay (w.heap.size+1) 0)=false/\w1.frozen? (ay (w.heap.size+1) 1)=false/\w.heap.size+1<w1.heap.size:=λw1 o=>by
  have u:w1.heap[w.heap.size+1]? = some (.cells #[aj 0,aj 0] 149 (0,0)):=by
   refine(o.block _ eB eR).trans ?_;have:=bl (w.alloc (.cells #[aj ((k:Int)+1),aj H] 149)) (.cells #[aj 0,aj 0] 149);simpa using this
  grind[World.cell?,World.frozen?,ch]
 have a2:=bj a4;by_cases Z:vb.f.k (k+1)=0
 .have e0:vz (kd.on (k+1)) (vb.f.k (k+1))=dy 1:=by rw[i,Z];rfl
  have Y:rk (k+1,H) vb.f M=.tuple #[aj 0,vA (0,0),.bool false]:=by unfold rk;rw[bf (ah Z)]
  rw[Y];rw[e0,e2]at ha;generalize ((E9 (kd.on (k+1)) (vb.f.k (k+1)):Nat):Int)=y1 at *;generalize (M (k+1)).length=m at *;generalize vb.f.b (k+1)=g at *;change Hid _ at ha;clear e0 e2 W J a0 a1 i Y Z;go_in;go_wp2_with fail
  refine du (ha _ (KS.kept (ax (ak _ _ _) _))) λw1 o=>?_;have G:=bj (ar (ax (ak w _ none) _) o);obtain⟨r0,r1,t0,t1,lx⟩:=a2 w1 o;clear o;go_wp2
  refine dg (v:=.tuple #[aj 0,vA (0,0),.bool false]) (by simp[results,results162,go_sem,qy,lx,r0,r1]) rfl ⟨?_,rfl⟩;repeat (first|exact G|refine bo ?_|refine ax ?_ _|refine bu ?_ (ah eB) _)
 have e0:vz (kd.on (k+1)) (vb.f.k (k+1))=dy 2:=by rw[i];unfold vz JM;rw[bf rfl,au Z];rfl
 have e1:E9 (kd.on (k+1)) (vb.f.k (k+1))=vb.f.k (k+1)-1:=jx i
 have a3:=KS.p.k _ i Z;have Y:rk (k+1,H) vb.f M=.tuple #[aj ((vb.f.k (k+1)-1:Nat):Int),vA ((M (k+1)).getD 0 (0,0)),.bool true]:=by unfold rk;rw[au (λh=>h.elim (λh=>by cases h) (λh=>Z h))]
 have hF:=KS.p.s (k+1) ag ag i;have s0:=hF.cell 0 ag;have s1:=hF.cell 1 ag;have q0:eQ (lM M (k+1)) 0=aj (((M (k+1)).getD 0 (0,0)).1:Int):=rfl;have q1:eQ (lM M (k+1)) 1=aj ((M (k+1)).getD 0 (0,0)).2:=rfl;rw[q0]at s0;rw[q1]at s1;have lf:=hF.lt;rw[Y];rw[e0,e1,e2,a3]at ha;generalize (M (k+1)).getD 0 (0,0)=y at *;generalize vb.f.k (k+1)-1=ff at *;generalize vb.f.b (k+1)=g at *;have ha:=bj ha;clear ha e0 e1 e2 W J a0 a1 i Y Z hF a3 q0 q1;go_in;go_wp2_with fail
 refine du (ha _ (KS.kept (ax (ak _ _ _) _))) λw1 o=>?_;have G:=bj (ar (ax (ak w _ none) _) o);obtain⟨r0,r1,t0,t1,lx⟩:=a2 w1 o;have p0:=(bd G (a:=ay g 0) lf).1.trans s0;have p1:=(bd G (a:=ay g 1) lf).1.trans s1;have a6:=dm lf G.size;clear o s0 s1;go_wp2
 go_region
 all_goals
  go_wp2
  refine dg (v:=.tuple #[aj ff,vA y,.bool true]) (by simp[results,results162,go_sem,qy,lx,r0,r1]) rfl ⟨?_,rfl⟩;repeat (first|exact G|refine bo ?_|refine ax ?_ _|refine bu ?_ (ah eB) _)
def Eh(on:Nat->Bool)(f:Fb)(M:Nat->List B.V)(i:Nat)(j:Nat): jI (B.free on (i+1)) f M j=eC (eC (eC (jI on f M) (i*3) (dy 0)) (i*3+1) (aj 0)) (i*3+2) (.slice none 0 0) j:=by
 by_cases o:j=i*3+2
 .subst o;rw[gO,uu,B.tO];rfl
 rw[eN _ _ _ _ o];by_cases y:j=i*3+1
 .subst y;rw[gO,A2,B.tO];rfl
 rw[eN _ _ _ _ y];by_cases u:j=i*3
 .subst u;rw[gO,A3,B.tO];rfl
 grind[eN,jI,B.y9]
def Cz(cb rd sb pb n:Nat)(ad:Option Addr)(cap:Nat)(c:B.Cy)(on:Nat->Bool)(f:Fb)(M:Nat->List B.V)(w:aa)(o:mV w cb rd sb n ad cap c)(hP:oW w pb n on f M)(h0:w.cell? ⟨sb,0,none⟩=some (.slice (some ⟨pb,0,none⟩) n n))(hx:c.nx<n)(hn:n<=200): Calls prog 190 #[P0 cb] w λe w'=>e=.returned (.tuple #[])/\mV w' cb rd sb n ad cap (B.look c)/\oW w' pb n (B.ma on c) f M/\dM (λk=>k=pb\/k=cb) w w':=by
 have KC:=bj o;have y:=bj hP;obtain⟨c0,c1,_,c3,_,f3⟩:=o.c1;have m0:=o.r.cell c.nx hx;have G:pb≠cb:=by obtain⟨cu,h,_⟩:=hP.p;exact eE h o.b ek
 have a4:pb≠rd:=by obtain⟨cu,h,_⟩:=hP.p;obtain⟨Y,W,_⟩:=o.r;exact eE h W ek
 have a7:(c.nx:Int)<(n:Int):=ag
 have a8:IntKind.i64.wrap ((c.nx:Int)+1)=((c.nx:Int)+1):=by simp[IntKind.wrap,IntKind.bits,IntKind.signed];omega
 have a5:wrap64 ((c.nx:Int)+1)=((c.nx:Int)+1):=dN _ ⟨ag,ag⟩;have hq:∀k,(Value.slice ad c.st.length cap).ownBlock=some k->k≠cb/\k≠pb:=λk u=>by
  obtain⟨cu,h⟩:=o.q.ty k u;refine⟨eE h o.b ek,?_⟩;obtain⟨Y,W,_⟩:=hP.p;grind
 have HQ:=bj hq;have a0:rd≠cb:=by obtain⟨Y,W,_⟩:=o.r;exact eE W o.b ek
 have Z:∀p,1<=p->p<=n->on p=true->f.b p≠cb/\f.b p≠pb:=λp a b d=>by
  obtain⟨cu,h,_⟩:=hP.s p a b d;refine⟨eE h o.b ek,?_⟩;obtain⟨Y,W,_⟩:=hP.p;grind
 have a2:=bj Z
 cases hm:c.m (c.nx+1)
 .obtain⟨p0,z0⟩:=y.out.p.cells (c.nx*3) ag;obtain⟨p1,z1⟩:=y.out.p.cells (c.nx*3+1) ag;obtain⟨p2,z2⟩:=y.out.p.cells (c.nx*3+2) ag;generalize jI on f M (c.nx*3)=y0 at p0;generalize jI on f M (c.nx*3+1)=y1 at p1;generalize jI on f M (c.nx*3+2)=y2 at p2;rw[hm]at m0;have HM:=bj hm;have a6:=bj (bh c0 (bh c1 c3));generalize J:c.nx=x at *;go_in;go_wp2_with fail
  go_quiet (fail)
  go_wp2_with fail
  go_region
  go_wp2_with fail
  go_end0;subst J;have H:B.ma on c=B.free on (c.nx+1):=by unfold B.ma;rw[au (by rw[HM.out];decide)]
  have a1:∀k,k≠pb->((((w.drewN (nq+1)).setCell ⟨pb,c.nx*3,none⟩ (.int .u8 0)).setCell ⟨pb,c.nx*3+1,none⟩ (.int .i64 0)).setCell ⟨pb,c.nx*3+2,none⟩ (.slice none 0 0)).heap[k]? = w.heap[k]?:=λk u=>by
   rw[ab _ _ _ _ u,ab _ _ _ _ u,ab _ _ _ _ u];rfl
  refine⟨rfl,mV.step (KC.out.block (λk u=>a1 k ?_)) a0 (λk u=>(HQ.out k u).1),⟨?_,λp a b d=>?_,λp q a b d e g h=>y.out.i p q a b d e (jP _ _ _ g) (jP _ _ _ h),λp a=>y.out.l p (jP _ _ _ a),λp a=>y.out.k p (jP _ _ _ a)⟩,?_⟩
  .rcases u with h|h|h
   .rw[h];exact λe=>G e.symm
   .rw[h];exact λe=>a4 e.symm
   exact(HQ.out k (eV dF h)).2
  .rw[H];have hP:Full (w.drewN (nq+1)) pb 228 (n*3) (n*3) (jI on f M):=y.out.p;exact((((hP.eC (c.nx*3) (.int .u8 0)).eC (c.nx*3+1) (.int .i64 0)).eC (c.nx*3+2) (.slice none 0 0)).congr (λj _=>(Eh on f M c.nx j).symm)).off G
  .have h:=a2.out p a b (jP _ _ _ d);exact((y.out.s p a b (jP _ _ _ d)).block (a1 _ h.2)).off h.1
  exact bp (bp (bp (bp (uz (dw _ _) _) (af (af rfl)) _) (af (af rfl)) _) (af (af rfl)) _) (af (ah rfl)) _
 rw[hm]at m0;have HM:=bj hm;generalize J:c.nx=x at *;go_in;go_wp2_with fail
 go_quiet (fail)
 go_wp2_with fail
 go_end0;subst J;have H:B.ma on c=on:=by unfold B.ma;rw[bf HM.out]
 rw[H];have o:mV (w.drewN nq) cb rd sb n ad cap c:=KC.out.block (λ_ _=>rfl);have hP:oW (w.drewN nq) pb n on f M:=y.out.block rfl (λ_ _ _ _=>rfl);refine⟨rfl,o.step a0 (λk u=>(HQ.out k u).1),hP.block (ab _ _ _ _ G) (λp a b d=>ab _ _ _ _ (a2.out p a b d).1),bp (uz (dw _ _) _) (af (ah rfl)) _⟩
def Kh(w0 w:aa)(cb rd sb n pb:Nat)(ad:Option Addr)(c:B.Cy)(st:List Nat)(on:Nat->Bool)(f:Fb)(M:Nat->List B.V)(l:List B.V):Prop:=
 dM (oT cb rd ad) w0 w/\oW w pb n on f M/\∃ad' cap',xG ad ad' w0.heap.size/\mV w cb rd sb n ad' cap' ⟨(B.ib c.m st l).1,(B.ib c.m st l).2,c.nx⟩
theorem Kh.kept{w0 w w':aa}{cb u sb n pb:Nat}{ad:Option Addr}{c:B.Cy}{y:List Nat}{on:Nat->Bool}{f:Fb}{M:Nat->List B.V}{l:List B.V}(h:Kh w0 w cb u sb n pb ad c y on f M l)(i:w.grownBy w' none):Kh w0 w' cb u sb n pb ad c y on f M l:=by
 obtain⟨H,J,o,e,W,G⟩:=h;exact⟨H.iW i,J.kept i,o,e,W,G.kept i⟩
def tH{y n m:Nat}{c:B.Cy}{M:Nat->List B.V}(hP:oW w pb m on f M)(W:mV w cb y sb n ad cap c):¬oT cb y ad pb/\∀p,1<=p->p<=m->on p=true->¬oT cb y ad (f.b p):=by
 have o:∀(k:Nat) (u:Array Value) (T:TypeId),w.heap[k]? = some (.cells u T (0,0))->T≠275/\T≠4/\T≠3->¬oT cb y ad k:=by
  intro k u T J G h;obtain⟨H,T',i,e⟩:=W.ty k h;rw[J]at i;injection i with i;injection i with _ i _
  subst i;rcases e with e|e|e
  .grind
  .grind
  exact G.2.2 e
 refine⟨?_,λp a b d=>?_⟩
 .obtain⟨H,h,_⟩:=hP.p;grind
 obtain⟨H,h,_⟩:=hP.s p a b d;grind
def DB{w0:aa}{Y n:Nat}{c:B.Cy}{y:List Nat}{M:Nat->List B.V}{l:List B.V}(v:B.V)(h:Kh w0 w cb Y sb n pb ad c y on f M l)(hn:n<=200)(hs:y.length+B.mU c.m n<=n)(hl:∀v,v∈l->v.1≠0->v.1<=n)(hv:v.1≠0->v.1<=n): eL 188 #[P0 cb,vA v] w λw'=>Kh w0 w' cb Y sb n pb ad c y on f M (l++[v]):=by
 obtain⟨h1,hP,J,i,h2,h3⟩:=h;have u:(B.ib c.m y l).2.length<=200:=by have:=B.nQ (n:=n) l c.m y hl;omega
 have o:=tH hP h3;refine du (sj cb Y sb n J i _ v w h3 hv hn u) ?_;rintro w' ⟨Z,G,h4,h5,W⟩;refine⟨rfl,h1.trans W (λk hk hl=>(h2.J1 hk).resolve_right ag),hP.block (W.same hP.p.lt o.1) (λp a b d=>W.same (hP.s p a b d).lt (o.2 p a b d)),Z,G,h2.trans h4 h1.size,?_⟩;grind[B.qs]
def BR(cb rd sb pb n p:Nat)(ad:Option Addr)(cap:Nat)(c:B.Cy)(st:List Nat)(on:Nat->Bool)(f:Fb)(M:Nat->List B.V)(w:aa)(hC:mV w cb rd sb n ad cap c)(hP:oW w pb n on f M)(h0:w.cell? (ay sb 0)=some (dA pb n n))(hsb:¬oT cb rd ad sb)(hst:c.st=st++[p])(hp:1<=p/\p<=n/\on p=true)(hv:∀v,v∈M p->v.1≠0->v.1<=n)(hs:st.length+B.mU c.m n<=n)(hn:n<=200): eL 189 #[P0 cb] w λw'=>oW w' pb n on f M/\dM (oT cb rd ad) w w'/\∃ad' cap',xG ad ad' w.heap.size/\mV w' cb rd sb n ad' cap' (B.BU M c st p):=by
 obtain⟨k,rfl⟩:∃k,p=k+1:=⟨p-1,ag⟩;have hkd:=hp.2.2
 have hC2:w.heap[cb]? = some (.cells #[P0 sb,dA rd n n,.slice ad (st.length+1) cap,aj c.nx] 275 (0,0)):=by have:=hC.b;rw[hst,cw,eI]at this;exact this
 have hq:gd w 3 (.slice ad ((oi st).length+1) cap) (oi st++[aj k]):=by
  have:=hC.q;rw[hst,AM,cw,eI,<-wN st]at this;exact this
 obtain⟨g,off,rfl,lg,hcap,hlast,hq2⟩:=hq.pop;rw[wN]at hcap hlast hq2;obtain⟨e0,_,e2,_⟩:dS w cb 0=some (P0 sb)/\True/\dS w cb 2=some (.slice (some (ay g off)) (st.length+1) cap)/\True:=by simp[World.cell?,hC2]
 have z2:w.frozen? (ay cb 2)=false:=qE hC2
 have p2:=hP.p.cell (k*3+2) ag;rw[uu,hkd]at p2;have hsl:qo true (f.b (k+1)) (M (k+1)).length=dA (f.b (k+1)) (M (k+1)).length (M (k+1)).length:=rfl;rw[hsl]at p2;have hne:=tH hP hC;have npc:¬pb=cb:=λe=>hne.1 (af e);have ngc:g≠cb:=by
  obtain⟨cu,h⟩:=hq.ty g rfl;exact eE h hC2 ek
 have ncg:¬cb=g:=λe=>ngc e.symm;have hl8:=hP.l _ hkd;have hsb2:st.length<=200:=ag
 have hcl:st.length<=cap:=ag
 have KT:Hid (Kh w (w.setCell (ay cb 2) (.slice (some (ay g off)) st.length cap)) cb rd sb n pb (some (ay g off)) c st on f M []):=by
  refine⟨bp (dw _ _) (af (af rfl)) _,hP.block (ab _ _ _ _ (λe=>npc e)) (λp a b d=>ab _ _ _ _ (λe=>hne.2 p a b d (af e))),some (ay g off),cap,xG.refl _ _,⟨?_,hC.r.off (by obtain⟨cu',h',_⟩:=hC.r;grind),hq2.block (λx hx=>ab _ _ _ _ ?_)⟩⟩
  .simp[World.setCell,dh,hC2,B.ib]
  have e:g=x:=by injection hx
  subst e;exact ngc
 have HV:=bj hv;have HST:=bj hs;have HPL:=bj hp;have hki:(k:Int)<n:=ag
 have hli:(st.length:Int)<st.length+1:=ag
 have hsub:(st.length:Int)+1-1=(st.length:Int):=ag
 have hwr:IntKind.i64.wrap (st.length:Int)=st.length:=by simp[IntKind.wrap,IntKind.bits,IntKind.signed];omega
 have hwr2:wrap64 (st.length:Int)=st.length:=dN _ ⟨ag,ag⟩;generalize hln:st.length=ln at *;change Hid _ at hln;clear hC hP hC2 hq hq2 hst hne hs hv hsl hp hsb;delta eL;go_in;go_wp2_with fail
 generalize hW:w.setCell (ay cb 2) (.slice (some (ay g off)) ln cap)=w1 at *;clear hW e0 e2 z2 h0 p2 hlast;go_loopw [40] (λi wr=>∃j:Nat,j<=(M (k+1)).length/\i=aj j/\Hid (Kh w wr cb rd sb n pb (some (ay g off)) c st on f M ((M (k+1)).take j))) (λi _=>(M (k+1)).length-(intOf i).toNat)
 case atStart=>grind
 case round=>
  obtain⟨j,hj,rfl,hX⟩:=hrel;by_cases hlt:j<(M (k+1)).length
  .have hF:=hX.2.1.s (k+1) HPL.1 HPL.2.1 HPL.2.2;have r0:=hF.cell (j*2) ag;have r1:=hF.cell (j*2+1) ag;rw[ph]at r0;rw[pf]at r1;clear hF;have hmem:lM M (k+1) j∈M (k+1):=by
    show(M (k+1)).getD j (0,0)∈M (k+1);rw[cr,bz hlt];exact List.getElem_mem hlt
   have htk:(M (k+1)).take (j+1)=(M (k+1)).take j++[lM M (k+1) j]:=by
    rw[List.take_succ_eq_append_getElem hlt];congr 1
    show[_]=[(M (k+1)).getD j (0,0)];rw[cr,bz hlt];rfl
   generalize hvv:lM M (k+1) j=vv at *;change Hid _ at htk hmem;clear hvv;have hji:(j:Int)<((M (k+1)).length:Int):=ag
   generalize hll:(M (k+1)).length=ml at *;clear hll;go_wp2_with fail
   refine du (DB vv (hX.kept (ak _ _ _)) hn (eV hln.out HST) (λv hv h0=>HV v (List.mem_of_mem_take hv) h0) (HV vv hmem)) λw5 hV5=>?_;rw[<-htk.out]at hV5;change Hid _ at hV5;clear r0 r1;go_wp2
   go_roundw
   case rel=>exact⟨j+1,ag,iA,hV5⟩
   case measure=>simp[intOf];omega
  have hjl:j=(M (k+1)).length:=ag
  have hX2:=hX.out;rw[hjl,List.take_length]at hX2;change Hid _ at hX2;go_wp2
  go_end0;obtain⟨x1,x2,ad',cap',x3,x4⟩:=hX2;exact⟨rfl,x2,x1,ad',cap',x3,x4⟩
def vJ(cb o sb pb n:Nat)(ad:Option Addr)(cap:Nat)(c:B.Cy)(on:Nat->Bool)(f:Fb)(M:Nat->List B.V)(T:Nat->Prop)(w:aa)(H:mV w cb o sb n ad cap c)(hP:oW w pb n on f M)(G:w.cell? ⟨sb,0,none⟩=some (.slice (some ⟨pb,0,none⟩) n n))(u:¬oT cb o ad sb)(y:B.kQ on n M c T)(hs:c.st.length+B.mU c.m n<=n)(hx:c.nx<n)(hn:n<=200): Calls prog 136 #[P0 cb] w λe w'=>e=.returned (.tuple #[])/\oW w' pb n (B.unit M on c).1 f M/\dM (λk=>k=pb\/oT cb o ad k) w w'/\∃a1 Y,xG ad a1 w.heap.size/\mV w' cb o sb n a1 Y (B.unit M on c).2:=by
 obtain⟨_,_,e2,_,_,_⟩:=H.c1;have lc:=ch H.b;rcases List.eq_nil_or_concat c.st with i|⟨st,p,i⟩
 .have HL:=bj (Cz cb o sb pb n ad cap c on f M w H hP G hx hn);rw[B.pD i];rw[i]at e2;go_in;go_wp2_with fail
  refine HL.out.mono ?_;rintro e w1 ⟨rfl,h1,W,Z⟩;have J:=bj (bh W (bh (Z.mono (S1:=λk=>k=pb\/oT cb o ad k) (λk hk _=>hk.imp id (λh=>af h))) h1));go_wp2_with fail
  go_end0;exact⟨rfl,J.out.1,J.out.2.1,ad,cap,xG.refl _ _,J.out.2.2⟩
 rw[List.concat_eq_append]at i;have a0:=y.hc p (y.hd p eR)
 have HL:=bj (BR cb o sb pb n p ad cap c st on f M w H hP G u i (y.ha p a0) (λv hv G=>(y.ha _ ((y.hb p a0 v hv).2 G)).2.1) eR hn);rw[B.pC i];rw[i,cw,eI]at e2;have a4:(0:Int)<(st.length:Int)+1:=ag
 go_in;go_wp2_with fail
 refine HL.out.mono ?_;rintro e w1 ⟨rfl,h1,W,Z⟩;have J:=bj (bh h1 (bh (W.mono (S1:=λk=>k=pb\/oT cb o ad k) (λk hk _=>ah hk)) Z));go_wp2_with fail
 go_end0;exact⟨rfl,J.out⟩
structure C8(w:aa) (Q:Nat->Prop) (eb sb pb n nr:Nat) (kd:B.Kd) (vb:Vs) (s:B.St):Prop where
 hv:Kx Q w eb nr s.2.1
 hq:∀k,Q k->k<w.heap.size/\k≠sb
 hs:kD w sb pb eb n kd vb s.2.2
 hh:B.jO kd nr n s
 n1:1<=n
 n2:n<=200
theorem C8.kept{w w':aa}{Q:Nat->Prop}{eb sb pb n nr:Nat}{kd:B.Kd}{vb:Vs}{s:B.St}(h:C8 w Q eb sb pb n nr kd vb s)(o:w.grownBy w' none):C8 w' Q eb sb pb n nr kd vb s:=
 ⟨h.hv.block (λk i=>o.block k (h.hq k i).1 eR),λk i=>⟨dm (h.hq k i).1 o.size,(h.hq k i).2⟩,h.hs.kept o,h.hh,h.n1,h.n2⟩
def C8.roots{Q:Nat->Prop}{n nr:Nat}{kd:B.Kd}{s:B.St}(h:C8 w Q eb sb pb n nr kd vb s):∀i,i<nr->(s.2.1 i).1≠0->(s.2.1 i).1<=n:=λi hi e=>(B.mI h.hh (B.kx i hi e)).2.2
theorem kD.cells{n:Nat}{kd:B.Kd}{M:Nat->List B.V}(h:kD w sb pb eb n kd vb M): w.cell? (ay sb 1)=some (.func (.func 59) #[P0 eb] #[])/\w.cell? (ay sb 2)=some (zE kd vb)/\w.cell? (ay sb 3)=some (aj (wrap64 (kd.un:Int)))/\w.cell? (ay sb 4)=some (aj (wrap64 (kd.fo:Int)))/\w.cell? (ay sb 5)=some (aj (wrap64 (kd.cc:Int)))/\w.frozen? (ay sb 2)=false/\w.frozen? (ay sb 3)=false/\w.frozen? (ay sb 4)=false/\w.frozen? (ay sb 5)=false:=by
 simp[World.cell?,World.frozen?,h.b]
def NY(w wr:aa)(cb rd sb pb n nr:Nat)(kd:B.Kd)(vb:Vs)(s:B.St)(o:Obj):Prop:=
 ∃c on ad cap,mV wr cb rd sb n ad cap c/\oW wr pb n on vb.f s.2.2/\B.kQ on n s.2.2 c (B.Reach nr s)/\c.st.length+B.mU c.m n<=n/\(∀p,on p=true->kd.on p=true)/\(∀k,oT cb rd ad k->w.heap.size<=k)/\dM (λk=>k=sb\/k=pb) w wr/\wr.heap[sb]? = some o
def CN(Q:Nat->Prop)(eb sb pb n nr:Nat)(kd:B.Kd)(vb:Vs)(s:B.St)(w:aa)(hR:C8 w Q eb sb pb n nr kd vb s): eL 219 #[P0 sb] w λw'=>∃on:Nat->Bool,(∀p,1<=p->p<=n->(on p=true↔B.Reach nr s p))/\(∀p,on p=true->kd.on p=true)/\(∀p,B.Reach nr s p->on p=true)/\dM (λk=>k=sb\/k=pb) w w'/\kD w' sb pb eb n ⟨on,none,kd.un,kd.fo+1,kd.cc⟩ vb s.2.2:=by
 have KR:=bj hR;obtain⟨c1,c2,c3,c4,c5,z2,z3,z4,z5⟩:=hR.hs.cells;have ls:=ch hR.hs.b;have hn:=hR.n2;have hn1:=hR.n1;have a5:sb≠pb:=by obtain⟨cu,h,_⟩:=hR.hs.p.p;exact eE hR.hs.b h ek
 have HB:=bj hR.hs.b;generalize hy:wrap64 (kd.fo:Int)=y at *;generalize aH:zE kd vb=cv at *;have HY:=bj hy;delta eL;go_in;go_wp2_with fail
 generalize hW:(w.setCell (ay sb 4) (aj (wrap64 (y+1)))).setCell (ay sb 2) (.pointer none)=w2;have aM:w2.heap.size=w.heap.size:=by rw[<-hW];simp[World.setCell]
 have Y:∀k,k≠sb->w2.heap[k]? = w.heap[k]?:=λk G=>by grind[Below.heap_setCell]
 have Z:w2.heap[sb]? = some (.cells #[dA pb n n,.func (.func 59) #[P0 eb] #[],.pointer none,aj (wrap64 (kd.un:Int)),aj (wrap64 (y+1)),aj (wrap64 (kd.cc:Int))] 207 (0,0)):=by
  rw[<-hW];have:=HB.out;simp[World.setCell,dh,this]
 have a8:Hid (dM (λk=>k=sb\/k=pb) w w2):=by
  show dM _ _ _;rw[<-hW];exact bp (bp (dw _ _) (af (af rfl)) _) (af (af rfl)) _
 have d0:dS w2 sb 0=some (dA pb n n):=fy Z;have d1:dS w2 sb 1=some (.func (.func 59) #[P0 eb] #[]):=fy Z;generalize ho:(.cells #[dA pb n n,.func (.func 59) #[P0 eb] #[],.pointer none,aj (wrap64 (kd.un:Int)),aj (wrap64 (y+1)),aj (wrap64 (kd.cc:Int))] 207 (0,0):Obj)=o at *;have HO:=bj ho;have aA:=bj Z;have a0:Hid (oW w2 pb n kd.on vb.f s.2.2):=KR.hs.p.block (Y pb (λe=>a5 e.symm)) (λp a b d=>Y _ (by
  obtain⟨cu,h,_⟩:=KR.hs.p.s p a b d;exact eE h HB ek))
 have a7:=bj (KR.hv.block (λk G=>Y k (KR.hq k G).2));clear hW Y ho Z c1 c2 c3 c4 c5 z2 z3 z4 z5;refine(u9 Q eb sb pb n nr s.2.1 w2 d0 d1 a7 (λk G=>by have:=(KR.hq k G).1;omega) hn KR.roots).mono ?_;rintro e w3 ⟨cb,rd,ad,cap,rfl,u,a3,aC⟩;have aF:Hid (NY w w3 cb rd sb pb n nr kd vb s o):=by
  refine⟨_,kd.on,ad,cap,aC,a0.block (u.block pb a0.p.lt) (λp a b d=>u.block _ (a0.s p a b d).lt),B.ue KR.hh,C0 KR.hh,λ_ h=>h,λk G=>by grind,?_,(u.block sb ag).trans aA⟩;exact a8.trans (S1:=λ_=>False) ⟨u.os,u.tape,u.output,u.size,λk G _=>u.block k G⟩ (λ_ h _=>h.elim)
 go_wp2
 go_loopw [] (λwr=>Hid (NY w wr cb rd sb pb n nr kd vb s o)) (λwr=>todo wr cb rd n)
 case atStart=>exact aF
 case round=>
  obtain⟨c,on,a9,a1,h1,h2,W,h4,h5,h6,h7,h8⟩:=hrel;have HT:=bj (AJ h1);have H:=bj (bh h1 (bh h2 (bh W (bh h4 (bh h5 (bh h6 (bh h7 h8)))))));have HE:=bj (uV cb rd sb n a9 a1 c wr h1);by_cases hx:c.nx=n
  .have hd:decide (c.nx=n)=true:=gG hx;rw[hd]at HE;have aB:=bj hx;go_wp2_with fail
   refine du HE λw4 J=>?_;have i:=bj J;go_wp2
   go_end0;obtain⟨h1,h2,W,h4,h5,h6,h7,h8⟩:=H;refine⟨rfl,on,λp a b=>?_,h5,λp hp=>(W.ha p hp).2.2,h7.iW i,⟨?_,h2.kept i,λc hc=>by cases hc⟩⟩
   .rw[<-W.last (W.hg ag) p];exact⟨W.hi p a ag,λhm=>(W.ha p (W.hc p hm)).2.2⟩
   have:=da i h8 im;rw[this,<-HO.out,<-HY.out,rE];rfl
  have hd:decide (c.nx=n)=false:=gG hx;rw[hd]at HE;have a6:c.nx<n:=gp H.2.2.1.hh
  have a2:=bj a6;go_wp2_with fail
  refine du HE λw4 J=>?_;have i:=bj J;go_wp2_with fail
  have aD:dS w4 sb 0=some (dA pb n n):=by
   have:=da i H.2.2.2.2.2.2.2 im;rw[<-HO.out]at this;simp[World.cell?,this]
  refine(vJ cb rd sb pb n a9 a1 c on vb.f s.2.2 (B.Reach nr s) w4 (H.1.kept i) (H.2.1.kept i) aD (λh=>?_) H.2.2.1 H.2.2.2.1 a2 hn).mono ?_
  .have:=H.2.2.2.2.2.1 sb h;omega
  rintro e w5 ⟨rfl,u1,u2,aL,a4,u3,u4⟩;have aK:=BK H.2.2.1 a2;have aJ:=AJ u4;have aO:=i.size;have aN:=H.2.2.2.2.2.2.1.size;have aI:Hid (NY w w5 cb rd sb pb n nr kd vb s o):=by
   obtain⟨h1,h2,W,h4,h5,h6,h7,h8⟩:=H;refine⟨_,_,aL,a4,u4,u1,B.vM W a2,ag,λp hp=>h5 p (B.ow hp),λk G=>?_,(h7.iW i).trans u2 (λk G hl=>?_),(u2.same ag (λh=>?_)).trans (da i h8 im)⟩
   .rcases u3.J1 G with h|h
    .exact h6 k h
    omega
   .rcases G with h|h
    .exact ah h
    exact dp (h6 k h) ag
   rcases h with h|h
   .exact a5 h
   exact dp (h6 sb h) ag
  have aG:Hid (todo w5 cb rd n<todo wr cb rd n):=by show _<_;have:=HT.out;omega
  go_wp2
  go_roundw
  case rel=>exact aI
  case measure=>exact aG
def n9{kd:B.Kd}{c:B.Cy}(h:kd.cy=some c):zE kd vb=P0 vb.cb:=by grind[zE]
def oa{kd:B.Kd}(h:kd.cy=none):zE kd vb=.pointer none:=by grind[zE]
def rA(sb pb n:Nat)(kd:B.Kd)(vb:Vs)(k:Nat):Prop:=k=sb\/k=pb\/Own n kd vb k
def pW(n:Nat)(kd:B.Kd)(vb:Vs)(kd':B.Kd)(vb':Vs)(sz:Nat):Prop:=∀k,Own n kd' vb' k->Own n kd vb k\/sz<=k
theorem pW.refl(n:Nat)(kd:B.Kd)(vb:Vs)(sz:Nat):pW n kd vb kd vb sz:=λ_ h=>af h
def MT(w wr:aa)(eb sb pb n:Nat)(kd:B.Kd)(vb:Vs)(s:B.St)(nr:Nat)(kd':B.Kd):Prop:=
 ∃vb',kD wr sb pb eb n kd' vb' s.2.2/\B.jO kd' nr n s/\dM (rA sb pb n kd vb) w wr/\pW n kd vb kd' vb' w.heap.size/\vb'.f=vb.f
def kD.kI{n:Nat}{kd:B.Kd}{M:Nat->List B.V}(h:kD w sb pb eb n kd vb M):sb≠pb/\∀k,Own n kd vb k->k≠sb/\k≠pb:=by
 obtain⟨G,i,_⟩:=id h.p.p;refine⟨eE h.b i ek,λk u=>?_⟩;obtain⟨y,T,o,e⟩:=h.ty k u;refine⟨eE o h.b ?_,eE o i ?_⟩
 .grind
 grind
def x8{n:Nat}{kd:B.Kd}{M:Nat->List B.V}{c:B.Cy}{x:Value}{cc:Nat}(y:w.heap[sb]? = some (.cells #[dA pb n n,.func (.func 59) #[P0 eb] #[],x,aj (wrap64 ((kd.un+1:Nat):Int)),aj (wrap64 (kd.fo:Int)),aj (wrap64 (cc:Int))] 207 (0,0)))(hx:((B.unit M kd.on c).2.nx=n/\x=.pointer none/\cc=kd.cc+1)\/((B.unit M kd.on c).2.nx≠n/\x=P0 vb.cb/\cc=kd.cc))(u:oW w pb n (B.unit M kd.on c).1 vb.f M)(G:mV w vb.cb vb.rd sb n ad cap (B.unit M kd.on c).2): kD w sb pb eb n (B.me M n kd c) { vb with ad:=ad,cap:=cap } M:=by
 rcases hx with⟨e,rfl,rfl⟩|⟨e,rfl,rfl⟩
 .have o:B.me M n kd c=⟨(B.unit M kd.on c).1,none,kd.un+1,kd.fo,kd.cc+1⟩:=by unfold B.me;rw[bf e]
  rw[o];exact⟨y,u,λc i=>by cases i⟩
 have o:B.me M n kd c=⟨(B.unit M kd.on c).1,some (B.unit M kd.on c).2,kd.un+1,kd.fo,kd.cc⟩:=by unfold B.me;rw[au e]
 rw[o];refine⟨y,u,λH i=>?_⟩;grind
def Ei{n k:Nat}{kd:B.Kd}{M:Nat->List B.V}{c:B.Cy}{sz:Nat}(G:kd.cy=some c)(y:xG vb.ad ad sz)(i:Own n (B.me M n kd c) { vb with ad:=ad,cap:=cap } k):Own n kd vb k\/sz<=k:=by
 have o:∀p,(B.me M n kd c).on p=true->kd.on p=true:=λp u=>by
  have e:(B.me M n kd c).on=(B.unit M kd.on c).1:=by unfold B.me;split<;>rfl
  rw[e]at u;exact B.ow u
 rcases i with⟨p,a,b,d,e⟩|⟨_,i⟩
 .exact af (af ⟨p,a,b,o p d,e⟩)
 exact(y.J1 i).imp (λh=>ah ⟨eR,h⟩) id
def Dk(Q:Nat->Prop)(eb sb pb n nr u:Nat)(kd:B.Kd)(vb:Vs)(s:B.St)(w:aa)(hR:C8 w Q eb sb pb n nr kd vb s)(hu:u<=50): Calls prog 69 #[P0 sb,.int .i64 u] w λe w'=>e=.returned (.tuple #[])/\MT w w' eb sb pb n kd vb s nr (B.work s.2.1 nr s.2.2 n u kd):=by
 have KR:=bj hR;obtain⟨c1,c2,_⟩:=hR.hs.cells;have c0:=hR.hs.c0;have ls:=ch hR.hs.b;have hn:=hR.n2;clear hR;rcases hcy:kd.cy with _|aY
 all_goals
  first
  |rw[oa hcy]at c2
   have a6:=bj hcy;clear hcy;go_in;go_wp2_with fail
   refine(u9 Q eb sb pb n nr s.2.1 w c0 c1 KR.hv (λk G=>(KR.hq k G).1) hn KR.roots).mono ?_;rintro e w1 ⟨cb,rd,ad,cap,rfl,J,aB,aH⟩;have a2:=(J.block sb ls).trans KR.hs.b;have x2:w1.cell? ⟨sb,2,none⟩=some (.pointer none):=by rw[oa a6]at a2;simp[World.cell?,a2]
   have y2:w1.frozen? ⟨sb,2,none⟩=false:=qE a2
   have aS:Hid (MT w (w1.setCell ⟨sb,2,none⟩ (P0 cb)) eb sb pb n kd vb s nr { kd with cy:=some (B.begun s.2.1 nr) }):=by
    have hS:=KR.hs;have aI:=hS.kI;have aW:∀k,oT cb rd ad k->k≠sb:=λk G=>by grind
    refine⟨{ vb with cb:=cb,rd:=rd,ad:=ad,cap:=cap },⟨?_,?_,?_⟩,B.uI KR.hh KR.n1,?_,?_,rfl⟩
    .simp[World.setCell,dh,a2,zE]
    .exact(hS.p.block (J.block pb hS.p.p.lt) (λp a b d=>J.block _ (hS.p.s p a b d).lt)).block (ab _ _ _ _ (λe=>aI.1 e.symm)) (λp a b d=>ab _ _ _ _ (aI.2 _ (af ⟨p,a,b,d,rfl⟩)).1)
    .grind[B.begun,Below.heap_setCell,mV.block]
    .exact bp ⟨J.os,J.tape,J.output,J.size,λk G _=>J.block k G⟩ (af (af rfl)) _
    intro k G;rcases G with⟨p,a,b,d,e⟩|⟨_,G⟩
    .exact af (af ⟨p,a,b,d,e⟩)
    exact ah (aB k G)
   have HU:Hid (B.gw s.2.2 n u { kd with cy:=some (B.begun s.2.1 nr) }=B.work s.2.1 nr s.2.2 n u kd):=by
    show _=_;unfold B.work;rw[a6.out]
   clear J aB aH a2;clear c0 c1 c2;go_wp2_with fail
  |rw[n9 hcy]at c2
   have a6:=bj hcy;clear hcy;have aS:Hid (MT w w eb sb pb n kd vb s nr kd):=⟨vb,KR.hs,KR.hh,dw _ _,pW.refl _ _ _ _,rfl⟩;have HU:Hid (B.gw s.2.2 n u kd=B.work s.2.1 nr s.2.2 n u kd):=by
    show _=_;unfold B.work;rw[a6.out]
   go_in;go_wp2_with fail
   clear c0 c1 c2
 all_goals
  go_loopw [4] (λi wr=>∃j:Nat,j<=u/\i=.int .i64 j/\Hid (∃kd',MT w wr eb sb pb n kd vb s nr kd'/\B.gw s.2.2 n (u-j) kd'=B.work s.2.1 nr s.2.2 n u kd)) (λi _=>u-(intOf i).toNat)
  case atStart=>exact⟨0,ag,rfl,_,aS,HU⟩
  case round=>
   obtain⟨j,hj,rfl,hX⟩:=hrel;obtain⟨kd',⟨o,hS,hH,hO,hG,a3⟩,hU⟩:=hX;obtain⟨_,d2,_,_,_,_,_,_,_⟩:=hS.cells;have lw:=ch hS.b;have HS:=bj hS;have HQ:=bj (bh hH (bh hO (bh hG (bh hU a3))));clear hS hH hO hG hU a3;by_cases b3:j<u
   .have a9:(j:Int)<u:=ag
    cases hcy':kd'.cy with
    |none=>
     rw[oa hcy']at d2;have y:=bj hcy';clear hcy';go_wp2_with fail
     go_end0;obtain⟨hH,hO,hG,hU,a3⟩:=HQ;rw[B.tY y]at hU;exact⟨rfl,by rw[<-hU];exact⟨o,HS,hH,hO,hG,a3⟩⟩
    |some c=>
     rw[n9 hcy']at d2;have y:=bj hcy';clear hcy';obtain⟨hx,T,hT,a8⟩:=HQ.1.h3 c y;have aZ:=bj a8;have aL:=bj (vJ o.cb o.rd sb pb n o.ad o.cap c kd'.on o.f s.2.2 T wr (HS.c c y) HS.p HS.c0 (λh=>(HS.kI.2 sb (ah ⟨jx y.out,h⟩)).1 rfl) a8 a8.sum hx hn);have b1:=bj hx;clear a8 hT hx;go_wp2_with fail
     refine aL.mono ?_;rintro e w5 ⟨rfl,u1,u2,a0,Y,u3,u4⟩;have W:w5.heap[sb]? = _:=(u2.same lw (λh=>by
      rcases h with h|h
      .exact HS.kI.1 h
      exact(HS.kI.2 sb (ah ⟨jx y.out,h⟩)).1 rfl)).trans HS.b
     rw[n9 y]at W;generalize aF:wrap64 (kd'.un:Int)=yu at W;generalize aE:wrap64 (kd'.cc:Int)=yc at W;have x2:w5.cell? ⟨sb,2,none⟩=some (P0 o.cb):=fy W
     have x3:w5.cell? ⟨sb,3,none⟩=some (.int .i64 yu):=fy W
     have y3:w5.frozen? ⟨sb,3,none⟩=false:=qE W
     have l5:=ch W;have aU:=bj W;have a7:=bj (bh aF aE);have a5:=bj (bh u1 (bh u2 (bh u3 u4)));clear u1 u2 u3 u4 W aF aE d2 aL;go_wp2_with fail
     have aG:(w5.setCell ⟨sb,3,none⟩ (.int .i64 (wrap64 (yu+1)))).heap[sb]? = some (.cells #[.slice (some ⟨pb,0,none⟩) n n,.func (.func 59) #[P0 eb] #[],P0 o.cb,.int .i64 (wrap64 (yu+1)),.int .i64 (wrap64 (kd'.fo:Int)),.int .i64 yc] 207 (0,0)):=by
      have:=aU.out;simp[World.setCell,dh,this]
     have aC:∀k,oT o.cb o.rd a0 k->k≠sb:=λk G e=>by
      rcases a5.2.2.1.J1 G with h|h
      .exact(HS.kI.2 k (ah ⟨jx y.out,h⟩)).1 e
      omega
     have aJ:oW (w5.setCell ⟨sb,3,none⟩ (.int .i64 (wrap64 (yu+1)))) pb n (B.unit s.2.2 kd'.on c).1 o.f s.2.2:=a5.1.block (ab _ _ _ _ (λe=>HS.kI.1 e.symm)) (λp a b d=>ab _ _ _ _ (HS.kI.2 _ (af ⟨p,a,b,B.ow d,rfl⟩)).1);have aQ:mV (w5.setCell ⟨sb,3,none⟩ (.int .i64 (wrap64 (yu+1)))) o.cb o.rd sb n a0 Y (B.unit s.2.2 kd'.on c).2:=a5.2.2.2.block (λk G=>ab _ _ _ _ (aC k G));have aT:=bj aC;have aM:=bj aJ;have aA:=bj aQ;have aV:=bj aG
     have aN:Hid (dM (rA sb pb n kd vb) w (w5.setCell ⟨sb,3,none⟩ (.int .i64 (wrap64 (yu+1))))):=by
      refine bp (HQ.2.1.trans a5.2.1 (λk G hl=>?_)) (af (af rfl)) _;rcases G with h|h
      .exact ah (af h)
      exact ah (ah ((HQ.2.2.1 k (ah ⟨jx y.out,h⟩)).resolve_right ag))
     clear aG aC aJ aQ x2 x3 y3;generalize aX:w5.setCell ⟨sb,3,none⟩ (.int .i64 (wrap64 (yu+1)))=w6 at *;clear aX;refine(uV o.cb o.rd sb n a0 Y _ w6 aA).mono ?_;rintro e w7 ⟨rfl,aD⟩;have a1:=bj aD;have Z:=da aD aV im;have aO:=bj Z;have aR:Hid (pW n kd vb (B.me s.2.2 n kd' c) { o with ad:=a0,cap:=Y } w.heap.size):=λk G=>by
      rcases Ei y a5.2.2.1 G with h|h
      .exact HQ.2.2.1 k h
      have:=HQ.2.1.size;exact ah ag
     have aP:Hid (B.gw s.2.2 n (u-(j+1)) (B.me s.2.2 n kd' c)=B.work s.2.1 nr s.2.2 n u kd):=by
      have:=HQ.2.2.2.1;rw[show u-j=(u-(j+1))+1 by omega,B.tX y]at this;exact this
     clear aD;by_cases H:(B.unit s.2.2 kd'.on c).2.nx=n
     .have hd:decide ((B.unit s.2.2 kd'.on c).2.nx=n)=true:=gG H
      rw[hd];have a4:=bj H;have z2:w7.cell? ⟨sb,2,none⟩=some (P0 o.cb):=fy Z
      have z5:w7.cell? ⟨sb,5,none⟩=some (.int .i64 yc):=fy Z
      have q2:w7.frozen? ⟨sb,2,none⟩=false:=qE Z
      have q5:w7.frozen? ⟨sb,5,none⟩=false:=qE Z
      have l7:=ch Z;clear hd H Z;go_wp2_with fail
      go_roundw
      case rel=>
       refine⟨j+1,ag,iA,_,⟨{ o with ad:=a0,cap:=Y },x8 (cc:=kd'.cc+1) (x:=.pointer none) ?_ (af ⟨a4,rfl,rfl⟩) ?_ ?_,B.su HQ.1 y,?_,aR,HQ.2.2.2.2⟩,aP⟩
       .have:=aO.out;rw[<-a7.1,<-a7.2]at *;simp[World.setCell,dh,this,rE]
       .exact((aM.kept a1).block (ab _ _ _ _ (λe=>HS.kI.1 e.symm)) (λp a b d=>ab _ _ _ _ (HS.kI.2 _ (af ⟨p,a,b,B.ow d,rfl⟩)).1)).block (ab _ _ _ _ (λe=>HS.kI.1 e.symm)) (λp a b d=>ab _ _ _ _ (HS.kI.2 _ (af ⟨p,a,b,B.ow d,rfl⟩)).1)
       .exact((aA.kept a1).block (λk G=>ab _ _ _ _ (aT k G))).block (λk G=>ab _ _ _ _ (aT k G))
       exact bp (bp (aN.iW a1) (af (af rfl)) _) (af (af rfl)) _
      case measure=>simp[intOf];omega
     have hd:decide ((B.unit s.2.2 kd'.on c).2.nx=n)=false:=gG H
     rw[hd];have a4:=bj H;clear hd H Z;go_wp2_with fail
     go_roundw
     case rel=>
      refine⟨j+1,ag,iA,_,⟨{ o with ad:=a0,cap:=Y },x8 (cc:=kd'.cc) (x:=P0 o.cb) ?_ (ah ⟨a4,rfl,rfl⟩) (aM.kept a1) (aA.kept a1),B.su HQ.1 y,aN.iW a1,aR,HQ.2.2.2.2⟩,aP⟩;rw[aO.out,<-a7.1,<-a7.2,rE]
     case measure=>simp[intOf];omega
   have a9:¬((j:Int)<u):=ag
   have HJ:Hid (u-j=0):=by show _=_;omega
   go_wp2_with fail
   go_end0;obtain⟨hH,hO,hG,hU,a3⟩:=HQ;rw[HJ.out]at hU;exact⟨rfl,by rw[<-hU];exact⟨o,HS,hH,hO,hG,a3⟩⟩
structure jc where
 f:Nat
 nx:Nat
 R:Nat->B.V
 bk:Nat×Nat×Nat×Nat
structure qA where
 fr:List jc
 run:Bool
 wh:Option (Nat×Nat)
 lf:Option (Nat×Nat×Nat×Nat)
 iM:Int
structure Pl where
 nt:Nat
 T:Nat->qA
 q:Nat->Nat->List Nat
 lv:List Nat
 out:List B.V
 kp:List B.V
 ev:List tU
 ft:Nat->List Nat
 sp:Bool
 clk:Int
 kd:B.Kd
 M:Nat->List B.V
 ck:Nat->Nat
structure eJ where
 tb:Nat->Nat
 ro:Nat->Nat->Option Addr×Nat
 fb:Nat->Nat->Nat
 rb:Nat->Nat->Nat
 xe:Nat->Nat
 xt:Nat->Nat
 sx:Nat->Nat
 vf:Nat->Nat
 cb:Nat
 rd:Nat
 ad:Option Addr
 cap:Nat
structure dL where
 eb:Nat
 sb:Nat
 pb:Nat
 n:Nat
 nf:Nat
 gb:Nat
 cb:Nat->Nat
 len:Nat->Nat
 rg:Nat->Nat
 ins:Nat->Nat->Nat×Nat×Nat×Nat
 qn:Nat
 wk:Nat
 mt:Nat
 ac:Nat
 E0:Nat->Value
 fx:Nat->Prop
 fc:Nat->Option Obj
structure Ob where
 bs:Nat->Prop
 ok:aa->Prop
 fr:∀w w':aa,ok w->(∀k,bs k->w'.heap[k]? = w.heap[k]?)->ok w'
 lt:∀(w:aa) (k:Nat),ok w->bs k->k<w.heap.size
variable {g g':eJ}{p:dL}{s s':Pl}{w w' w0:aa}
def Ob.nil:Ob:=⟨λ_=>False,λ_=>True,λ_ _ h _=>h,λ_ _ _ h=>h.elim⟩
def Ob.full(b:Nat)(T:TypeId)(N:Nat)(E:Nat->Value):Ob:=⟨λk=>k=b,λw=>Full w b T N N E,λ_ _ h hk=>h.block (hk b rfl),λ_ _ h e=>by rw[e];exact h.lt⟩
def Ob.one(b:Nat)(o:Obj):Ob:=⟨λk=>k=b,λw=>w.heap[b]? = some o,λ_ _ h hk=>(hk b rfl).trans h,λ_ _ h e=>by rw[e];exact ch h⟩
def Ob.row(T:TypeId)(sz:Nat)(ad:Option Addr)(n c:Nat)(xs:List Value):Ob:=⟨λk=>fi ad=some k,λw=>w.ownsRow 0 T sz (.slice ad n c) n xs,λ_ _ h hk=>dQ h (λk e=>hk k (by rw[<-dF ad n c];exact e)),λ_ k h e=>(dP h k (by rw[dF];exact e)).2.1⟩
def kD.slt{sb pb eb n:Nat}{kd:B.Kd}{vb:Vs}{M:Nat->List B.V}(h:kD w sb pb eb n kd vb M)(k:Nat)(e:rA sb pb n kd vb k):k<w.heap.size:=by
 rcases e with rfl|rfl|e
 .exact ch h.b
 .exact h.p.p.lt
 exact h.lt k e
def Ob.str(sb pb eb n:Nat)(kd:B.Kd)(vb:Vs)(M:Nat->List B.V):Ob:=⟨rA sb pb n kd vb,λw=>kD w sb pb eb n kd vb M,λ_ _ h hk=>h.block (hk sb (af rfl)) (hk pb (ah (af rfl))) (λk h=>hk k (ah (ah h))),λ_ k h e=>h.slt k e⟩
def JW(F:Nat->Prop)(C:Nat->Option Obj)(w w':aa)(h:∀k,F k->k<w.heap.size/\w.heap[k]? = C k)(u:∀k,F k->w'.heap[k]? = w.heap[k]?)(k:Nat)(i:F k):k<w'.heap.size/\w'.heap[k]? = C k:=by
 grind
def Ob.fix(F:Nat->Prop)(C:Nat->Option Obj):Ob:=⟨F,λw=>∀k,F k->k<w.heap.size/\w.heap[k]? = C k,JW F C,λ_ k h e=>(h k e).1⟩
def eS(s:Pl)(x y:Nat):Nat:=
 if x=6 then s.lv.length else if x=7 then s.out.length else if x=8 then s.kp.length else if x=9 then s.ev.length else if x=10 then(s.ft y).length else if x=12 then(s.T y).fr.length else(s.q x y).length
def gu(s:Pl)(g:eJ)(x y:Nat):List Value:=
 if x=6 then(s.lv.map g.tb).map P0 else if x=7 then gT s.out else if x=8 then gT s.kp else if x=9 then mA s.ev else if x=10 then iI (s.ft y) else if x=12 then((List.range (s.T y).fr.length).map (g.fb y)).map P0 else((s.q x y).map g.tb).map P0
def AU(x:Nat):TypeId:=if x=7 then 149 else if x=8 then 149 else if x=9 then 48 else if x=10 then 5 else if x=12 then 184 else 155
def AV(x:Nat):Nat:=if x=7 then 2 else if x=8 then 2 else if x=9 then 3 else 1
def sl(s:Pl)(g:eJ)(x y:Nat):Value:=.slice (g.ro x y).1 (eS s x y) (g.ro x y).2
def lP(j:Nat):Nat×Nat:=if j=29 then(6,0) else if j=30 then(7,0) else if j=31 then(8,0) else if j=32 then(2,0) else if j=33 then(3,0) else if j=43 then(9,0) else if j % 2=0 then(10,(j-34) / 2) else(4,(j-34) / 2)
def iH(p:dL)(s:Pl)(g:eJ)(j:Nat):Value:=
 if j<28 then p.E0 j else if j=28 then .int .i64 s.clk else if j=42 then .bool s.sp else sl s g (lP j).1 (lP j).2
def pL(p:dL)(g:eJ)(x y:Nat):Nat:=if x=5 then g.tb y else p.eb
def ri(x y:Nat):Nat:=if x=5 then 6 else if x=2 then 32 else if x=3 then 33 else 35+2*y
def wF(p:dL)(g:eJ)(h:Option (Nat×Nat)):Value:=match h with
 | none=>.pointer none
 | some (x,y)=>Pt (pL p g x y) (ri x y)
def yL(g:eJ)(t:Nat)(h:Option (Nat×Nat×Nat×Nat)):Value:=match h with
 | none=>.nilFunc
 | some _=>Fv 207 #[P0 (g.sx t)]
def gz(p:dL)(s:Pl)(g:eJ)(t j:Nat):Value:=
 if j=0 then .int .i64 (t:Int) else if j=1 then sl s g 12 t else if j=2 then .bool (s.T t).run else if j=3 then wF p g (s.T t).wh else if j=4 then yL g t (s.T t).lf else if j=5 then .int .i64 (s.T t).iM else sl s g 5 t
def xM(p:dL)(g:eJ)(t i:Nat)(bk:Nat×Nat×Nat×Nat):Value:=if i=0 then Fv 120 #[P0 (g.xe t),P0 (g.xt t)] else .func (.func 149) #[ed bk.1 bk.2.1 bk.2.2.1 bk.2.2.2 (g.fb t (i-1)) (g.tb t) p.eb] #[]
def n6:jc:=⟨0,0,λ_=>(0,0),(0,0,0,0)⟩
def dq(s:Pl)(t i:Nat):jc:=(s.T t).fr.getD i n6
def zD(p:dL)(g:eJ)(t i:Nat)(f:jc):Obj:=jo (p.cb f.f) (p.len f.f) f.nx (g.rb t i) (p.rg f.f) (xM p g t i f.bk)
def wK(p:dL)(s:Pl)(g:eJ)(t:Nat):Obj:=match (s.T t).lf with
 | none=>.cells #[] 0 (0,0)
 | some k=>ju k.1 k.2.1 k.2.2.1 k.2.2.2 (g.fb t ((s.T t).fr.length-1)) (g.tb t) p.eb
def kE(s:Pl)(g:eJ):Vs:=⟨⟨g.vf,s.ck⟩,g.cb,g.rd,g.ad,g.cap⟩
def gY(s:Pl)(x y z:Nat):Bool:=
 if x<=1\/x=2\/x=3\/(6<=x/\x<=9)\/x=18 then decide (y=0/\z=0)
 else if x=4\/x=10 then decide (y<4/\z=0)
 else if x=5\/x=11\/x=12\/x=15\/x=16 then decide (1<=y/\y<=s.nt/\z=0)
 else if x=17 then decide (1<=y/\y<=s.nt/\z=0) && (s.T y).lf.isSome
 else if x=13\/x=14 then decide (1<=y/\y<=s.nt/\z<(s.T y).fr.length)
 else false
def Iu(p:dL)(s:Pl)(g:eJ)(x y z:Nat):Ob:=
 if x=0 then .full p.eb 144 44 (iH p s g)
 else if x=1 then .str p.sb p.pb p.eb p.n s.kd (kE s g) s.M
 else if x=11 then .full (g.tb y) 160 7 (gz p s g y)
 else if x=13 then .one (g.fb y z) (zD p g y z (dq s y z))
 else if x=14 then .full (g.rb y z) 149 (p.rg (dq s y z).f*2) (eQ (dq s y z).R)
 else if x=15 then .one (g.xe y) (.cells #[P0 p.eb] 95 (0,0))
 else if x=16 then .one (g.xt y) (.cells #[P0 (g.tb y)] 155 (0,0))
 else if x=17 then .one (g.sx y) (wK p s g y)
 else if x=18 then .fix p.fx p.fc
 else .row (AU x) (AV x) (g.ro x y).1 (eS s x y) (g.ro x y).2 (gu s g x y)
def ob(p:dL)(s:Pl)(g:eJ)(x y z:Nat):Ob:=if gY s x y z=true then Iu p s g x y z else .nil
structure dZ(p:dL) (s:Pl) (g:eJ) (w:aa):Prop where
 o:∀x y z,(ob p s g x y z).ok w
 i:∀x y z x' y' z' k,(ob p s g x y z).bs k->(ob p s g x' y' z').bs k->x=x'/\y=y'/\z=z'
def eH(p:dL)(s:Pl)(g:eJ)(k:Nat):Prop:=∃x y z,(ob p s g x y z).bs k
def fm(s:Pl)(t:Nat):Prop:=1<=t/\t<=s.nt
structure Tr(p:dL) (s:Pl) (g:eJ) (w:aa) (s':Pl) (g':eJ) (w':aa):Prop where
 r:dZ p s' g' w'
 o:dM (eH p s g) w w'
 m:∀k,eH p s' g' k->eH p s g k\/w.heap.size<=k
 n:s.nt<=s'.nt
 t:∀u,fm s u->g'.tb u=g.tb u
theorem dZ.lt{p:dL}{s:Pl}{g:eJ}{w:aa}(h:dZ p s g w){k:Nat}(e:eH p s g k):k<w.heap.size:=by
 obtain⟨x,y,z,e⟩:=e;exact(ob p s g x y z).lt w k (h.o x y z) e
def dZ.only(h:dZ p s g w){S:Nat->Prop}(u:dM S w w')(hS:∀k,eH p s g k->¬S k):dZ p s g w':=
 ⟨λx y z=>(ob p s g x y z).fr w w' (h.o x y z) (λk e=>u.same (h.lt ⟨x,y,z,e⟩) (hS k ⟨x,y,z,e⟩)),h.i⟩
def dZ.kept(h:dZ p s g w)(e:w.grownBy w' none):dZ p s g w':=h.only (S:=λ_=>False) (ep e) (λ_ _ h=>h)
theorem Tr.refl(h:dZ p s g w):Tr p s g w s g w:=⟨h,dw _ _,λ_ h=>af h,bq _,λ_ _=>rfl⟩
theorem Tr.trans{p:dL}{s s' i:Pl}{g g' g'':eJ}{w w' w'':aa}(h:Tr p s g w s' g' w')(e:Tr p s' g' w' i g'' w''):Tr p s g w i g'' w'':=
 ⟨e.r,h.o.trans e.o (λk y J=>(h.m k y).resolve_right ag),λk y=>by
  rcases e.m k y with H|H
  .exact h.m k H
  have:=h.o.size;omega,dU h.n e.n,λu G=>(e.t u ⟨G.1,dU G.2 h.n⟩).trans (h.t u G)⟩
theorem Tr.kept{p:dL}{s s':Pl}{g g':eJ}{w w' w'':aa}(h:Tr p s g w s' g' w')(e:w'.grownBy w'' none):Tr p s g w s' g' w'':=⟨h.r.kept e,h.o.iW e,h.m,h.n,h.t⟩
theorem Tr.ahead(e:w0.grownBy w none)(h:Tr p s g w s' g' w'):Tr p s g w0 s' g' w':=
 ⟨h.r,(ep e).trans h.o (λ_ h _=>h),λk i=>(h.m k i).imp id (λh=>by have:=e.size;omega),h.n,h.t⟩
def Tr.other(h:Tr p s g w s' g' w'){k:Nat}{o:Obj}(e:w.heap[k]? = some o)(hn:¬eH p s g k):w'.heap[k]? = some o/\¬eH p s' g' k:=
 ⟨h.o.block e hn,λi=>(h.m k i).elim hn (λu=>by grind)⟩
def Tr.to{s0:Pl}{g0:eJ}(C:Nat->Nat->Nat->Prop)(own:Nat->Nat×Nat×Nat)(H:Tr p s0 g0 w0 s g w)(hO:dM (λk=>∃x y z,C x y z/\(ob p s g x y z).bs k) w w')(h1:∀x y z,¬C x y z->ob p s' g' x y z=ob p s g x y z)(h2:∀x y z,C x y z->(ob p s' g' x y z).ok w')(h3:∀x y z k,C x y z->(ob p s' g' x y z).bs k->(ob p s g x y z).bs k\/(¬eH p s g k/\w0.heap.size<=k/\own k=(x,y,z)))(hn:s.nt<=s'.nt:=by first|exact bq _|omega)(Y:∀u,fm s u->g'.tb u=g.tb u:=by intros;rfl):Tr p s0 g0 w0 s' g' w':=by
 have h:=H.r;have G:=λx y z k e=>by
  by_cases J:C x y z
  .exact h3 x y z k J e
  rw[h1 x y z J]at e;exact af e
 refine⟨⟨λx y z=>?_,λx y z x' y' z' k e W=>?_⟩,H.o.trans hO (λk e hl=>?_),λk e=>?_,dU H.n hn,λu Z=>(Y u ⟨Z.1,dU Z.2 H.n⟩).trans (H.t u Z)⟩
 .by_cases J:C x y z
  .grind
  rw[h1 x y z J];refine(ob p s g x y z).fr w w' (h.o x y z) (λk e=>hO.same (h.lt ⟨x,y,z,e⟩) ?_);grind[F.dZ.i]
 .rcases G _ _ _ k e with a|⟨a,_,b⟩
  .rcases G _ _ _ k W with c|⟨c,_⟩
   .grind[F.dZ.i]
   exact dp ⟨_,_,_,a⟩ c
  rcases G _ _ _ k W with c|⟨c,_,d⟩
  .exact dp ⟨_,_,_,c⟩ a
  grind
 .obtain⟨x,y,z,_,Y⟩:=e;exact(H.m k ⟨x,y,z,Y⟩).resolve_right ag
 obtain⟨x,y,z,e⟩:=e;rcases G x y z k e with h|h
 .exact H.m k ⟨x,y,z,h⟩
 omega
theorem dZ.to{p:dL}{s s':Pl}{g g':eJ}{w w':aa}(C:Nat->Nat->Nat->Prop)(own:Nat->Nat×Nat×Nat)(h:dZ p s g w)(o:dM (λk=>∃x y z,C x y z/\(ob p s g x y z).bs k) w w')(i:∀x y z,¬C x y z->ob p s' g' x y z=ob p s g x y z)(W:∀x y z,C x y z->(ob p s' g' x y z).ok w')(J:∀x y z k,C x y z->(ob p s' g' x y z).bs k->(ob p s g x y z).bs k\/(w.heap.size<=k/\own k=(x,y,z)))(hn:s.nt<=s'.nt:=by first|exact bq _|omega)(H:∀u,fm s u->g'.tb u=g.tb u:=by intros;rfl):Tr p s g w s' g' w':=
 Tr.to C own (Tr.refl h) o i W (λx y z k Y e=>(J x y z k Y e).imp id (λG=>⟨λZ=>by have:=h.lt Z;omega,G⟩)) hn H
def mJ(f:Fb)(M:Nat->List B.V)(x y:B.V):Prop:=x.1≠0/\f.k x.1=0/\y.1=0/\0<=y.2/\y.2<((M x.1).length:Int)
def iP(f:Fb)(x y:B.V):Nat:=if x.1=0\/f.k x.1≠0 then 2 else if y.1≠0 then 1 else 3
def uf(f:Fb)(x y:B.V):1<=iP f x y/\iP f x y<=3:=by grind[iP]
def Ij(f:Fb)(M:Nat->List B.V)(x y:B.V)(v:Value):Prop:=
 (mJ f M x y/\v=.tuple #[.int .i64 y.2,.int .i64 0])\/(¬mJ f M x y/\v=.tuple #[.int .i64 0,.int .i64 (iP f x y)])
def yf(op a b c fb tb eb sb pb n:Nat)(x y:B.V)(kd:B.Kd)(vb:Vs)(M:Nat->List B.V)(w:aa)(hS:kD w sb pb eb n kd vb M)(hn:n<=200)(hx:B.sG kd.on n x)(aE:w.cell? (ay eb 27)=some (P0 sb))(le:eb<w.heap.size): Calls prog 158 #[ed op a b c fb tb eb,vA x,vA y] w λe w'=>∃v,e=.returned v/\w.grownBy w' none/\Ij vb.f M x y v:=by
 have KS:=bj hS;have HX:=bj hx;obtain⟨u,G⟩:=y;have a2:x.1≠0->(M x.1).length<=8:=λh0=>by
  rcases hx with h|h
  .omega
  exact hS.p.l _ h.2.2.1
 clear hS hx;go_in;go_wp2_with fail
 generalize hW:((w.alloc (.cells #[dy op,dy a,dy b,dy c,P0 fb,P0 tb,P0 eb] 186)).alloc (.cells #[aj x.1,aj x.2] 149)).alloc (.cells #[aj u,aj G] 149)=w1;have a0:Hid (w.grownBy w1 none):=by rw[<-hW];exact ax (ax (ak _ _ _) _) _
 have a1:w1.heap[w.heap.size]? = some (ju op a b c fb tb eb):=by rw[<-hW,av _ _ _ fH,av _ _ _ eB];exact bl w _
 have Y:w1.heap[w.heap.size+1]? = some (.cells #[aj x.1,aj x.2] 149 (0,0)):=by
  rw[<-hW,av _ _ _ eB];have:=bl (w.alloc (.cells #[dy op,dy a,dy b,dy c,P0 fb,P0 tb,P0 eb] 186)) (.cells #[aj x.1,aj x.2] 149);simpa using this
 have o:w1.heap[w.heap.size+1+1]? = some (.cells #[aj u,aj G] 149 (0,0)):=by
  rw[<-hW];have:=bl ((w.alloc (.cells #[dy op,dy a,dy b,dy c,P0 fb,P0 tb,P0 eb] 186)).alloc (.cells #[aj x.1,aj x.2] 149)) (.cells #[aj u,aj G] 149);simpa using this
 clear hW;have H3:=bj o;have x6:=(eZ a1).2.2.2.2.2.2;have c0:dS w1 (w.heap.size+1) 0=some (aj x.1):=fy Y
 have c1:dS w1 (w.heap.size+1) 1=some (aj x.2):=fy Y
 obtain⟨a4,_⟩:=bd a0 (a:=ay eb 27) le;rw[aE]at a4;have aB:=ch a1;have a9:=ch Y;have aM:=ch o;have aG:eb<w1.heap.size:=ag
 clear a1 Y o;have HS:Hid (∀w':aa,w1.grownBy w' none->dS w' w.heap.size 6=some (P0 eb)/\dS w' eb 27=some (P0 sb)/\dS w' (w.heap.size+1) 0=some (aj x.1)/\dS w' (w.heap.size+1) 1=some (aj x.2)):=
  λw' hg=>⟨(bd hg (a:=ay w.heap.size 6) aB).1.trans x6,(bd hg (a:=ay eb 27) aG).1.trans a4,(bd hg (a:=ay (w.heap.size+1) 0) a9).1.trans c0,(bd hg (a:=ay (w.heap.size+1) 1) a9).1.trans c1⟩
 go_region_held3 (λw'=>dS w' w.heap.size 6=some (P0 eb)/\dS w' eb 27=some (P0 sb)/\dS w' (w.heap.size+1) 0=some (aj x.1)/\dS w' (w.heap.size+1) 1=some (aj x.2)) (first|exact HS _ (bo (aw _ _))|exact HS _ a3) (first|(go_at_call 200;refine(BZ sb pb eb n x kd vb M w1.drew (KS.kept (bo a0)) hn HX).mono ?_;rintro e w2 ⟨J,hc⟩;have a3:Hid (w1.grownBy w2 none):=⟨J.os,J.tape,J.output,J.size,J.block⟩;obtain⟨n2,ob,rfl,a7⟩:∃(n2:Int) (ob:Bool),e=.returned (.tuple #[aj n2,.bool ob])/\(((x.1=0\/vb.f.k x.1≠0)/\ob=false)\/((x.1≠0/\vb.f.k x.1=0)/\ob=true/\n2=((M x.1).length:Int))):=(by unfold pc at hc;split at hc;exact⟨_,_,hc,af ⟨pZ,rfl⟩⟩;exact⟨_,_,hc,ah ⟨⟨λh=>(by rename_i hh;exact hh (af h)),(by rename_i hh;exact Classical.byContradiction λh=>hh (ah h))⟩,rfl,rfl⟩⟩);have aC:=bj a7;clear hc a7 J))
 all_goals
  have o:=dv a3 H3;have e0:dS w2 (w.heap.size+1+1) 0=some (aj u):=fy o
  have e1:dS w2 (w.heap.size+1+1) 1=some (aj G):=fy o
  have a6:=bj (ar a0 a3);clear o x6 c0 c1 a4;rcases aC with⟨h1,rfl⟩|⟨h1,rfl,rfl⟩
  .have H:=bj (show ¬mJ vb.f M x (u,G)/\iP vb.f x (u,G)=2 from⟨λh=>h1.elim h.1 (λg=>g h.2.1),by unfold iP;rw[bf h1]⟩);clear h1 a2;go_wp2
   go_ret2
   exact⟨_,rfl,a6,ah ⟨H.1,jx H.2⟩⟩
  have hl:=a2 h1.1;change Hid _ at h1;clear a2;go_wp2_with fail
  refine du (gk (u,G) _) λw3 a5=>?_;have Z:=bj (ar a6 a5);clear a5 e0 e1;generalize aA:(M x.1).length=ln at *;have a8:=bj aA;clear aA;by_cases W:u=0
  .have hd:decide (u=0)=true:=gG W
   simp only[hd];by_cases h0:G<0
   .have H:=bj (show ¬mJ vb.f M x (u,G)/\iP vb.f x (u,G)=3 from⟨λh=>by have:(0:Int)<=G:=h.2.2.2.1;omega,by unfold iP;rw[au (λg=>g.elim h1.1 (λg=>g h1.2)),au (λg=>g W)]⟩)
    clear W hd;go_wp2
    go_ret2
    exact⟨_,rfl,Z,ah ⟨H.1,jx H.2⟩⟩
   obtain⟨i,hi⟩:∃i:Nat,G=i:=⟨G.toNat,ag⟩;subst hi;by_cases aJ:i<ln
   .have H:=bj (show mJ vb.f M x (u,(i:Int)) from⟨h1.1,h1.2,W,by show(0:Int)<=i;omega,by show(i:Int)<_;rw[a8.out];omega⟩)
    have aF:decide ((i:Int)<0)=false:=eB
    clear W hd h0;go_wp2
    go_ret2
    exact⟨_,rfl,Z,af ⟨H,rfl⟩⟩
   have H:=bj (show ¬mJ vb.f M x (u,(i:Int))/\iP vb.f x (u,(i:Int))=3 from⟨λh=>by have:(i:Int)<_:=h.2.2.2.2;rw[a8.out]at this;omega,by unfold iP;rw[au (λg=>g.elim h1.1 (λg=>g h1.2)),au (λg=>g W)]⟩)
   have aF:decide ((i:Int)<0)=false:=eB
   have aH:(ln:Int)<=i:=ag
   clear W hd h0;go_wp2
   go_ret2
   exact⟨_,rfl,Z,ah ⟨H.1,jx H.2⟩⟩
  have hd:decide (u=0)=false:=gG W
  simp only[hd];have H:=bj (show ¬mJ vb.f M x (u,G)/\iP vb.f x (u,G)=1 from⟨λh=>W h.2.2.1,by unfold iP;rw[au (λg=>g.elim h1.1 (λg=>g h1.2)),bf W]⟩);clear W hd;go_wp2
  go_ret2
  exact⟨_,rfl,Z,ah ⟨H.1,jx H.2⟩⟩
end F
section
def og.below{w w':aa}(h:og w)(i:Below w.heap.size w w'):og w':=
 ⟨dm h.1 i.size,λe o=>(i.cell (p:=ay 0 e) h.1).trans (h.2 e o)⟩
def Tryz.ET:(prog.info? 228).map (λi=>(i.zero,i.size,i.bytes))=some (some (.agg #[dy 0,aj 0,.slice none 0 0]),3,40):=by kernel_rfl
def xB(n eb:Nat)(hn:1<=n)(a1:n<=200)(w:aa):Calls prog 58 #[aj n,.func (.func 59) #[P0 eb] #[]] w λe w'=>∃sb pb,e=.returned (P0 sb)/\w.grownBy w' none/\w.heap.size<=sb/\w.heap.size<=pb/\kD w' sb pb eb n B.G0 BJ (λ_=>[]):=by
 obtain⟨i0,hi,W,H,G⟩:=info_parts Tryz.ET;go_in;go_wp2_with (at_make;go_loud (refine wpList_make_full _ rfl _ _ 204 rfl 0 228 i0 _ 3 underlying204 hi W H _ _ _ _ n rfl rfl rfl rfl eR pY (dk _) ?_))
 intro J i o;have u:Full J w.heap.size 228 (n*3) (n*3) (jI (λ_=>false) (λ_=>0) (λ_=>[])):=by
  rcases i.2 with⟨h,_⟩|⟨g',a0,y,h1,h2,h3,h4,h5,h6,h7⟩
  .cases h
  cases h1;refine⟨y,h3,h6,λj Z=>?_⟩;have Y:=congrArg (λl=>l[j]?) h7;have e2:(madeCells #[dy 0,aj 0,.slice none 0 0] (n*3)).toList[j]? = some (jI (λ_=>false) (λ_=>0) (λ_=>[]) j):=by
   simp only[madeCells,Array.getElem?_toList,Array.getElem?_map,Array.getElem?_range];rw[bf Z];have:j % 3=0\/j % 3=1\/j % 3=2:=by omega
   rcases this with h|h|h<;>simp[h,jI,vz,qo]
  simp only[e2,dO]at Y;rw[bf Z]at Y;simpa using Y
 have HF:=bj u;have HG:=bj o;go_wp2
 go_ret;refine⟨J.heap.size,w.heap.size,rfl,ax HG _,HG.size,bq _,⟨(bl J (.cells #[dA w.heap.size n n,.func (.func 59) #[P0 eb] #[],.pointer none,aj 0,aj 0,aj 0] 207)).trans (by simp[zE,B.G0,wrap64]),⟨HF.block (av _ _ _ HF.lt),λp _ _ h=>(by cases h),λp q _ _ _ _ h=>(by cases h),λp h=>(by cases h)⟩,λc h=>(by cases h)⟩⟩
def zm(fs:Value)(q wk t:Int)(b:Nat):Array Value:=#[fs,.int .i64 q,.int .i64 wk,.int .i64 t,Fv 163 #[P0 (b+2)],Fv 163 #[P0 (b+4)],Fv 151 #[P0 (b+5)],Fv 151 #[P0 (b+6)],Fv 151 #[P0 (b+7)],Fv 151 #[P0 (b+8)],Fv 163 #[P0 (b+10)],Fv 163 #[P0 (b+12)],Fv 163 #[P0 (b+14)],Fv 163 #[P0 (b+16)],Fv 101 #[],Fv 102 #[],Fv 163 #[P0 (b+18)],Fv 104 #[],Fv 163 #[P0 (b+19)],Fv 108 #[],Fv 163 #[P0 (b+20)],Fv 167 #[P0 (b+21),P0 (b+22)],Fv 167 #[P0 (b+23),P0 (b+24)],Fv 167 #[P0 (b+25),P0 (b+26)],Fv 167 #[P0 (b+27),P0 (b+28)],Fv 167 #[P0 (b+29),P0 (b+30)],Fv 163 #[P0 (b+32)],.pointer none,.int .i64 0,.slice none 0 0,.slice none 0 0,.slice none 0 0,.slice none 0 0,.slice none 0 0,.slice none 0 0,.slice none 0 0,.slice none 0 0,.slice none 0 0,.slice none 0 0,.slice none 0 0,.slice none 0 0,.slice none 0 0,.bool false,.slice none 0 0]
def CR(fs:Value)(q wk t:Int)(b:Nat):Nat->Value:=λj=>(zm fs q wk t b).getD j undef
def CQ{w:aa}{eb:Nat}{e:Value}{q wk t:Int}{b:Nat}(h:w.heap[eb]? = some (.cells (zm e q wk t b) 144 (0,0))):Full w eb 144 44 44 (CR e q wk t b):=by
 refine⟨_,h,rfl,λj i=>?_⟩;simp_all[zm,CR,Array.getD_eq_getD_getElem?,Array.getElem?_eq_getElem]
def told_none{kd:B.Kd}(v:B.V)(h:kd.cy=none):B.told kd v=kd:=by
 obtain⟨on,e,u,o,cc⟩:=kd;have i:e=none:=h;subst i;rfl
def BQ{kd:B.Kd}{c:B.Cy}(v:B.V)(h:kd.cy=some c):B.told kd v=⟨kd.on,some ⟨(B.seen c.m c.st v).1,(B.seen c.m c.st v).2,c.nx⟩,kd.un,kd.fo,kd.cc⟩:=by
 unfold B.told;rw[h];rfl
