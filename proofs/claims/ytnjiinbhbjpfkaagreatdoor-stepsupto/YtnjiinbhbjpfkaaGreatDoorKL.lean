import Derived.Test.YtnjiinbhbjpfkaaGreatDoorKI
import Derived.Test.YtnjiinbhbjpfkaaGreatDoorKG
set_option maxRecDepth 100000
set_option maxHeartbeats 0
set_option linter.all false
namespace Go.Proofs.YtnjiinbhbjpfkaaGreatDoor
open Go.RowKit Go.Proofs.Tryz
namespace F
theorem qH(sb pb n k:Nat)(x:Int)(on:Nat->Bool)(f:Fb)(M:Nat->List B.V)(w:World)(h0:w.cell? ⟨sb,0,none⟩=some (.slice (some ⟨pb,0,none⟩) n n))(ls:sb<w.heap.size)(hP:ow w pb n on f M)(hk:k<n)(hn:n<=200): Calls prog 202 #[P0 sb,vA (k+1,x)] w λe w'=>e=.returned (.agg #[tZ (on (k+1)) (f.k (k+1)),.int .i64 (DD (on (k+1)) (f.k (k+1)):Nat),oL (on (k+1)) (f.b (k+1)) (M (k+1)).length])/\w.grownBy w' none:=by
 have hi:=mP (k+1,x);have hd:decide (k+1≠0)=true:=by simp
 rw[show((k+1,x):B.V).1=k+1 from rfl,hd]at hi;have HI:=az hi;have lp:=hP.p.lt;have c0:=hP.p.cell (k*3) (by omega);have c1:=hP.p.cell (k*3+1) (by omega);have c2:=hP.p.cell (k*3+2) (by omega);rw[zI]at c0;rw[zH]at c1;rw[sQ]at c2;clear hP hi hd;obtain⟨y0,Z⟩:∃y,tZ (on (k+1)) (f.k (k+1))=.int .u8 y:=⟨_,rfl⟩;generalize ((DD (on (k+1)) (f.k (k+1)):Nat):Int)=y1 at *;obtain⟨a2,n2,m2,a0⟩:∃a n m,oL (on (k+1)) (f.b (k+1)) (M (k+1)).length=.slice a n m:=by unfold oL;split<;>exact⟨_,_,_,rfl⟩
 rw[Z]at c0 ⊢;rw[a0]at c2 ⊢;clear Z a0;have a4:(k:Int)<n:=by omega
 go_in;go_wp2_with fail
 refine(HI _).mono ?_;rintro e w1 ⟨rfl,Y⟩;have hz:=Y.size;simp at hz;have hx:w1.heap[w.heap.size+1]? = some (.cells #[.int .u8 0,.int .i64 0,.slice none 0 0] 228 (0,0)):=by
  refine(Y.block _ (by simp) (by intro e;cases e)).trans ?_;have:=bf (w.alloc (.cells #[.int .i64 ((k:Int)+1),.int .i64 x] 149)) (.cells #[.int .u8 0,.int .i64 0,.slice none 0 0] 228);simpa using this
 have hv:w1.heap[w.heap.size]? = some (.cells #[.int .i64 ((k:Int)+1),.int .i64 x] 149 (0,0)):=by
  refine(Y.block _ (by simp;omega) (by intro e;cases e)).trans ?_;rw[ak _ _ _ (by simp)];exact bf w _
 have W:=az (an (au (ah w _ none) _) Y);have v0:w1.cell? ⟨w.heap.size,0,none⟩=some (.int .i64 ((k:Int)+1)):=by simp[World.cell?,hv]
 have v1:w1.cell? ⟨w.heap.size,1,none⟩=some (.int .i64 x):=by simp[World.cell?,hv]
 have HX:=az hx;have d0:=(bh W (a:=⟨sb,0,none⟩) ls).1.trans h0;have p0:=(bh W (a:=⟨pb,k*3,none⟩) lp).1.trans c0;have p1:=(bh W (a:=⟨pb,k*3+1,none⟩) lp).1.trans c1;have p2:=(bh W (a:=⟨pb,k*3+2,none⟩) lp).1.trans c2;have J:sb<w1.heap.size:=by omega
 have G:pb<w1.heap.size:=by omega
 clear Y hx hz hv h0 c0 c1 c2;have H:=az (ay p0 (ay p1 p2));clear p0 p1 p2;go_wp2_with fail
 go_region_with (go_at_call 201;refine((az (mg k x (by omega))).out w1.drew).mono ?_;rintro e w2 ⟨rfl,u⟩;have i:Hid (w1.grownBy w2 none):=⟨u.os,u.tape,u.output,u.size,u.block⟩;have d2:=(bh i (a:=⟨sb,0,none⟩) J).1.trans d0;have p0:=(bh i (a:=⟨pb,k*3,none⟩) G).1.trans H.1;have p1:=(bh i (a:=⟨pb,k*3+1,none⟩) G).1.trans H.2.1;have p2:=(bh i (a:=⟨pb,k*3+2,none⟩) G).1.trans H.2.2;have o:=cm i HX (by intro e;cases e);have r0:w2.cell? ⟨w.heap.size+1,0,none⟩=some (.int .u8 0):=(by simp[World.cell?,o]);have r1:w2.cell? ⟨w.heap.size+1,1,none⟩=some (.int .i64 0):=(by simp[World.cell?,o]);have r2:w2.cell? ⟨w.heap.size+1,2,none⟩=some (.slice none 0 0):=(by simp[World.cell?,o]);have t0:w2.frozen? ⟨w.heap.size+1,0,none⟩=false:=(by simp[World.frozen?,o]);have t1:w2.frozen? ⟨w.heap.size+1,1,none⟩=false:=(by simp[World.frozen?,o]);have t2:w2.frozen? ⟨w.heap.size+1,2,none⟩=false:=(by simp[World.frozen?,o]);clear u o)
 all_goals
  go_wp2_with fail
  refine da (v:=.agg #[.int .u8 y0,.int .i64 y1,.slice a2 n2 m2]) (by simp[results,results202,go_sem,r0,r1,r2]) rfl ⟨rfl,?_⟩;have a1:=an W i;repeat (first|exact a1|refine bq ?_|refine au ?_ _|refine bp ?_ (ab (by simp)) _)
theorem ua(pb n:Nat)(on:Nat->Bool)(f:Fb)(M:Nat->List B.V)(w:World)(hS:ow w pb n on f M)(hn:n<=200): Calls prog 229 #[.slice (some ⟨pb,0,none⟩) n n,Fv 140 #[]] w λe w'=>w.grownBy w' none/\((∃k:Nat,k<n/\on (k+1)=false/\e=.returned (.int .i64 k))\/((∀p,1<=p->p<=n->on p=true)/\e=.returned (.int .i64 (-1)))):=by
 have KS:=az hS;go_in;go_wp2_with fail
 go_loopw [8] (λi wr=>∃k:Nat,k<=n/\i=.int .i64 k/\Hid (∀p,1<=p->p<=k->on p=true)/\Hid (w.grownBy wr none)) (λi _=>n-(intOf i).toNat)
 case atStart=>exact⟨0,by omega,rfl,λp h1 h2=>(by omega),ax _ _⟩
 case round=>
  obtain⟨k,hk,rfl,hK,hG⟩:=hrel;by_cases W:k<n
  .have hS:=KS.kept hG;have c0:=hS.p.cell (k*3) (by omega);have c1:=hS.p.cell (k*3+1) (by omega);have Z:=hS.p.cell (k*3+2) (by omega);rw[zI]at c0;rw[zH]at c1;rw[sQ]at Z;have Y:=yN (on (k+1)) (f.k (k+1)) (DD (on (k+1)) (f.k (k+1)):Nat) (oL (on (k+1)) (f.b (k+1)) (M (k+1)).length);obtain⟨y0,o⟩:∃y,tZ (on (k+1)) (f.k (k+1))=.int .u8 y:=⟨_,rfl⟩;generalize ((DD (on (k+1)) (f.k (k+1)):Nat):Int)=y1 at *;obtain⟨a2,n2,m2,u⟩:∃a n m,oL (on (k+1)) (f.b (k+1)) (M (k+1)).length=.slice a n m:=by unfold oL;split<;>exact⟨_,_,_,rfl⟩
   rw[o]at c0;rw[u]at Z;rw[o,u]at Y;have HF:=az Y;have a0:(k:Int)<n:=by omega
   go_wp2_with fail
   refine(HF _).mono ?_;rintro e w1 ⟨rfl,G⟩;have H:=az (an hG G)
   cases hkd:on (k+1)
   .have J:=az hkd;simp only[Bool.not_false];go_wp2_with fail
    go_ret;exact⟨H,ag ⟨k,W,J,rfl⟩⟩
   have J:=az hkd;simp only[Bool.not_true];go_wp2_with fail
   go_roundw
   case rel=>
    refine⟨k+1,by omega,by go_num,λp h1 h2=>?_,H⟩;by_cases e:p=k+1
    .subst e;exact J
    exact hK p h1 (by omega)
   case measure=>simp[intOf];omega
  obtain rfl:k=n:=by omega
  go_wp2_with fail
  go_ret;exact⟨hG,ab ⟨hK,rfl⟩⟩
theorem oE(sb pb n:Nat)(on:Nat->Bool)(f:Fb)(M:Nat->List B.V)(w:World)(H:w.cell? ⟨sb,0,none⟩=some (.slice (some ⟨pb,0,none⟩) n n))(hS:ow w pb n on f M)(hn:n<=200): Calls prog 218 #[P0 sb] w λe w'=>w.grownBy w' none/\((∃k:Nat,k<n/\on (k+1)=false/\e=.returned (.int .i64 k))\/((∀p,1<=p->p<=n->on p=true)/\e=.returned (.int .i64 (-1)))):=by
 have G:=az (ua pb n on f M w hS hn);go_in;go_wp2_with fail
 refine G.mono ?_;rintro e w1 ⟨u,⟨k,o,y,rfl⟩|⟨o,rfl⟩⟩
 .have i:=az (ay u (ay o y));go_wp2_with fail
  go_ret;exact⟨i.1,ag ⟨k,i.2.1,i.2.2,rfl⟩⟩
 have i:=az (ay u o);go_wp2_with fail
 go_ret;exact⟨i.1,ab ⟨i.2,rfl⟩⟩
theorem jm.c0{w:World}{sb pb eb n:Nat}{kd:B.Kd}{vb:Vs}{M:Nat->List B.V}(h:jm w sb pb eb n kd vb M):w.cell? ⟨sb,0,none⟩=some (.slice (some ⟨pb,0,none⟩) n n):=by simp[World.cell?,h.b]
theorem yt(sb pb eb n k i:Nat)(x:Int)(kd:B.Kd)(vb:Vs)(M:Nat->List B.V)(w:World)(hS:jm w sb pb eb n kd vb M)(hn:n<=200)(hk:k<n)(J:kd.on (k+1)=true)(hi:i<(M (k+1)).length): Calls prog 159 #[P0 sb,vA (k+1,x),.int .i64 i] w λe w'=>e=.returned (vA ((M (k+1)).getD i (0,0)))/\w.grownBy w' none:=by
 have h0:=hS.c0;have ls:=bz hS.b;have lp:=hS.p.p.lt;have c2:=hS.p.p.cell (k*3+2) (by omega);rw[sQ,J]at c2;have hF:=hS.p.s (k+1) (by omega) (by omega) J;have lf:=hF.lt;have s0:=hF.cell (i*2) (by omega);have s1:=hF.cell (i*2+1) (by omega);rw[nE]at s0;rw[nD]at s1;have Y:oL true (vb.f.b (k+1)) (M (k+1)).length=.slice (some ⟨vb.f.b (k+1),0,none⟩) (M (k+1)).length (M (k+1)).length:=rfl;rw[Y]at c2;have a6:=hS.p.l _ J;show Calls prog 159 #[P0 sb,vA (k+1,x),.int .i64 i] w λe w'=>e=.returned (vA (jQ M (k+1) i))/\w.grownBy w' none;generalize jQ M (k+1) i=y at *;generalize (M (k+1)).length=m at *;generalize vb.f.b (k+1)=g at *;clear hS Y hF;have a3:(k:Int)<n:=by omega
 have a9:(i:Int)<m:=by omega
 go_in;go_wp2_with fail
 generalize hW:(w.alloc (.cells #[.int .i64 ((k:Int)+1),.int .i64 x] 149)).alloc (.cells #[.int .i64 0,.int .i64 0] 149)=w1;have Z:Hid (w.grownBy w1 none):=by rw[<-hW];exact au (ah _ _ _) _
 have hz:w1.heap.size=w.heap.size+2:=by rw[<-hW];simp
 have hx:w1.heap[w.heap.size+1]? = some (.cells #[.int .i64 0,.int .i64 0] 149 (0,0)):=by
  rw[<-hW];have:=bf (w.alloc (.cells #[.int .i64 ((k:Int)+1),.int .i64 x] 149)) (.cells #[.int .i64 0,.int .i64 0] 149);simpa using this
 have hv:w1.heap[w.heap.size]? = some (.cells #[.int .i64 ((k:Int)+1),.int .i64 x] 149 (0,0)):=by
  rw[<-hW,ak _ _ _ (by simp)];exact bf w _
 clear hW;have v0:w1.cell? ⟨w.heap.size,0,none⟩=some (.int .i64 ((k:Int)+1)):=by simp[World.cell?,hv]
 have v1:w1.cell? ⟨w.heap.size,1,none⟩=some (.int .i64 x):=by simp[World.cell?,hv]
 have HX:=az hx;have d0:=(bh Z (a:=⟨sb,0,none⟩) ls).1.trans h0;have p2:=(bh Z (a:=⟨pb,k*3+2,none⟩) lp).1.trans c2;have q0:=(bh Z (a:=⟨g,i*2,none⟩) lf).1.trans s0;have q1:=(bh Z (a:=⟨g,i*2+1,none⟩) lf).1.trans s1;have W:sb<w1.heap.size:=by omega
 have a0:pb<w1.heap.size:=by omega
 have H:g<w1.heap.size:=by omega
 have HQ:=az (ay p2 (ay q0 q1));clear hx hv h0 c2 s0 s1 p2 q0 q1 hz;go_region_with (go_at_call 201;refine((az (mg k x (by omega))).out w1.drew).mono ?_;rintro e w2 ⟨rfl,G⟩;have o:Hid (w1.grownBy w2 none):=⟨G.os,G.tape,G.output,G.size,G.block⟩;have d2:=(bh o (a:=⟨sb,0,none⟩) W).1.trans d0;have p2:=(bh o (a:=⟨pb,k*3+2,none⟩) a0).1.trans HQ.1;have q0:=(bh o (a:=⟨g,i*2,none⟩) H).1.trans HQ.2.1;have q1:=(bh o (a:=⟨g,i*2+1,none⟩) H).1.trans HQ.2.2;have u:=cm o HX (by intro e;cases e);have r0:w2.cell? ⟨w.heap.size+1,0,none⟩=some (.int .i64 0):=(by simp[World.cell?,u]);have r1:w2.cell? ⟨w.heap.size+1,1,none⟩=some (.int .i64 0):=(by simp[World.cell?,u]);have t0:w2.frozen? ⟨w.heap.size+1,0,none⟩=false:=(by simp[World.frozen?,u]);have t1:w2.frozen? ⟨w.heap.size+1,1,none⟩=false:=(by simp[World.frozen?,u]);clear G u)
 all_goals
  go_wp2_with fail
  refine da (v:=vA y) (by simp[results,results159,go_sem,r0,r1]) rfl ⟨rfl,?_⟩;have a2:=an Z o;repeat (first|exact a2|refine bq ?_|refine au ?_ _|refine bp ?_ (ab (by simp)) _)
def nA(v:B.V)(f:Fb)(M:Nat->List B.V):Value:=if v.1=0\/f.k v.1≠0 then .tuple #[.int .i64 0,.bool false] else .tuple #[.int .i64 (M v.1).length,.bool true]
theorem AP(sb pb eb n:Nat)(v:B.V)(kd:B.Kd)(vb:Vs)(M:Nat->List B.V)(w:World)(hS:jm w sb pb eb n kd vb M)(hn:n<=200)(hv:B.qO kd.on n v): Calls prog 200 #[P0 sb,vA v] w λe w'=>w.grownBy w' none/\e=.returned (nA v vb.f M):=by
 have KS:=az hS;clear hS;obtain⟨v1,v2⟩:=v;rcases hv with hv|⟨y,u,H,Y⟩
 .have hv:v1=0:=hv;subst hv;have G:nA (0,v2) vb.f M=.tuple #[.int .i64 0,.bool false]:=by unfold nA;rw[aj (ag rfl)]
  rw[G];go_in;go_wp2_with fail
  refine(qI sb v2 _).mono ?_;rintro e w1 ⟨rfl,o⟩;have Z:=az (an (ah w _ none) o);clear o;go_wp2_with fail
  go_ret2
  exact⟨au Z _,rfl⟩
 obtain⟨k,hk⟩:∃k,v1=k+1:=⟨v1-1,by omega⟩;subst hk;have i:kd.on (k+1)=true:=H;have a0:k<n:=by omega
 have W:=λw' (hS:jm w' sb pb eb n kd vb M)=>qH sb pb n k v2 kd.on vb.f M w' hS.c0 (bz hS.b) hS.p a0 hn;have e2:oL (kd.on (k+1)) (vb.f.b (k+1)) (M (k+1)).length=.slice (some ⟨vb.f.b (k+1),0,none⟩) (M (k+1)).length (M (k+1)).length:=by rw[i];rfl
 by_cases J:vb.f.k (k+1)=0
 .have e0:tZ (kd.on (k+1)) (vb.f.k (k+1))=.int .u8 1:=by rw[i,J];rfl
  have G:nA (k+1,v2) vb.f M=.tuple #[.int .i64 (M (k+1)).length,.bool true]:=by unfold nA;rw[aa (λh=>h.elim (λh=>by cases h) (λh=>h J))]
  rw[G];rw[e0,e2]at W;generalize ((DD (kd.on (k+1)) (vb.f.k (k+1)):Nat):Int)=y1 at *;generalize (M (k+1)).length=m at *;generalize vb.f.b (k+1)=g at *;have HA:=az W;clear W e0 e2 y u H Y i G J;go_in;go_wp2_with fail
  refine(HA _ (KS.kept (ah _ _ _))).mono ?_;rintro e w1 ⟨rfl,o⟩;have Z:=az (an (ah w _ none) o);clear o;go_wp2_with fail
  go_ret2
  exact⟨au Z _,rfl⟩
 have e0:tZ (kd.on (k+1)) (vb.f.k (k+1))=.int .u8 2:=by rw[i];unfold tZ Hm;rw[aj rfl,aa J];rfl
 have G:nA (k+1,v2) vb.f M=.tuple #[.int .i64 0,.bool false]:=by unfold nA;rw[aj (ab J)]
 rw[G];rw[e0,e2]at W;generalize ((DD (kd.on (k+1)) (vb.f.k (k+1)):Nat):Int)=y1 at *;generalize (M (k+1)).length=m at *;generalize vb.f.b (k+1)=g at *;have HA:=az W;clear W e0 e2 y u H Y i G J;go_in;go_wp2_with fail
 refine(HA _ (KS.kept (ah _ _ _))).mono ?_;rintro e w1 ⟨rfl,o⟩;have Z:=az (an (ah w _ none) o);clear o;go_wp2_with fail
 go_ret2
 exact⟨au Z _,rfl⟩
theorem oS{W:World}{o:Obj}{b i:Nat}(h:b<W.heap.size):(W.alloc o).cell? ⟨b,i,none⟩=W.cell? ⟨b,i,none⟩:=(bh (ah W o none) (a:=⟨b,i,none⟩) h).1
def pJ(v:B.V)(f:Fb)(M:Nat->List B.V):Value:=if v.1=0\/f.k v.1=0 then .tuple #[.int .i64 0,vA (0,0),.bool false] else .tuple #[.int .i64 ((f.k v.1-1:Nat):Int),vA ((M v.1).getD 0 (0,0)),.bool true]
theorem vI(sb pb eb n:Nat)(v:B.V)(kd:B.Kd)(vb:Vs)(M:Nat->List B.V)(w:World)(hS:jm w sb pb eb n kd vb M)(hn:n<=200)(hv:B.qO kd.on n v): Calls prog 162 #[P0 sb,vA v] w λe w'=>w.grownBy w' none/\e=.returned (pJ v vb.f M):=by
 have KS:=az hS;obtain⟨v1,H⟩:=v;rcases hv with hv|⟨W,J,a0,a1⟩
 .have hv:v1=0:=hv;subst hv;have Y:pJ (0,H) vb.f M=.tuple #[.int .i64 0,vA (0,0),.bool false]:=by unfold pJ;rw[aj (ag rfl)]
  rw[Y];go_in;go_wp2_with fail
  refine(qI sb H _).mono ?_;rintro e w1 ⟨rfl,o⟩;have G:=az (an (au (ah w _ none) _) o);have hz:=o.size;have u:w1.heap[w.heap.size+1]? = some (.cells #[.int .i64 0,.int .i64 0] 149 (0,0)):=by
   refine(o.block _ (by simp) (by intro e;cases e)).trans ?_;have:=bf (w.alloc (.cells #[.int .i64 ((0:Nat):Int),.int .i64 H] 149)) (.cells #[.int .i64 0,.int .i64 0] 149);simpa using this
  have r0:w1.cell? ⟨w.heap.size+1,0,none⟩=some (.int .i64 0):=by simp[World.cell?,u]
  have r1:w1.cell? ⟨w.heap.size+1,1,none⟩=some (.int .i64 0):=by simp[World.cell?,u]
  have t0:w1.frozen? ⟨w.heap.size+1,0,none⟩=false:=by simp[World.frozen?,u]
  have t1:w1.frozen? ⟨w.heap.size+1,1,none⟩=false:=by simp[World.frozen?,u]
  have lx:=bz u;clear o u;go_wp2_with fail
  refine da (v:=.tuple #[.int .i64 0,vA (0,0),.bool false]) (by simp[results,results162,go_sem,oS,lx,r0,r1]) rfl ⟨?_,rfl⟩;repeat (first|exact G|refine bq ?_|refine au ?_ _|refine bp ?_ (ab (by simp)) _)
 obtain⟨k,hk⟩:∃k,v1=k+1:=⟨v1-1,by omega⟩;subst hk;have i:kd.on (k+1)=true:=a0;have a5:k<n:=by omega
 have ha:=λw' (hS:jm w' sb pb eb n kd vb M)=>qH sb pb n k H kd.on vb.f M w' hS.c0 (bz hS.b) hS.p a5 hn;have e2:oL (kd.on (k+1)) (vb.f.b (k+1)) (M (k+1)).length=.slice (some ⟨vb.f.b (k+1),0,none⟩) (M (k+1)).length (M (k+1)).length:=by rw[i];rfl
 have a4:∀w1:World,((w.alloc (.cells #[.int .i64 ((k:Int)+1),.int .i64 H] 149)).alloc (.cells #[.int .i64 0,.int .i64 0] 149)).grownBy w1 none->w1.cell? ⟨w.heap.size+1,0,none⟩=some (.int .i64 0)/\w1.cell? ⟨w.heap.size+1,1,none⟩=some (.int .i64 0)/\w1.frozen? ⟨w.heap.size+1,0,none⟩=false/\w1.frozen? ⟨w.heap.size+1,1,none⟩=false/\w.heap.size+1<w1.heap.size:=λw1 o=>by
  have u:w1.heap[w.heap.size+1]? = some (.cells #[.int .i64 0,.int .i64 0] 149 (0,0)):=by
   refine(o.block _ (by simp) (by intro e;cases e)).trans ?_;have:=bf (w.alloc (.cells #[.int .i64 ((k:Int)+1),.int .i64 H] 149)) (.cells #[.int .i64 0,.int .i64 0] 149);simpa using this
  exact⟨by simp[World.cell?,u],by simp[World.cell?,u],by simp[World.frozen?,u],by simp[World.frozen?,u],bz u⟩
 have a2:=az a4;by_cases Z:vb.f.k (k+1)=0
 .have e0:tZ (kd.on (k+1)) (vb.f.k (k+1))=.int .u8 1:=by rw[i,Z];rfl
  have Y:pJ (k+1,H) vb.f M=.tuple #[.int .i64 0,vA (0,0),.bool false]:=by unfold pJ;rw[aj (ab Z)]
  rw[Y];rw[e0,e2]at ha;generalize ((DD (kd.on (k+1)) (vb.f.k (k+1)):Nat):Int)=y1 at *;generalize (M (k+1)).length=m at *;generalize vb.f.b (k+1)=g at *;have HA:=az ha;clear ha e0 e2 W J a0 a1 i Y Z;go_in;go_wp2_with fail
  refine(HA _ (KS.kept (au (ah _ _ _) _))).mono ?_;rintro e w1 ⟨rfl,o⟩;have G:=az (an (au (ah w _ none) _) o);obtain⟨r0,r1,t0,t1,lx⟩:=a2 w1 o;clear o;go_wp2_with fail
  refine da (v:=.tuple #[.int .i64 0,vA (0,0),.bool false]) (by simp[results,results162,go_sem,oS,lx,r0,r1]) rfl ⟨?_,rfl⟩;repeat (first|exact G|refine bq ?_|refine au ?_ _|refine bp ?_ (ab (by simp)) _)
 have e0:tZ (kd.on (k+1)) (vb.f.k (k+1))=.int .u8 2:=by rw[i];unfold tZ Hm;rw[aj rfl,aa Z];rfl
 have e1:DD (kd.on (k+1)) (vb.f.k (k+1))=vb.f.k (k+1)-1:=by rw[i];rfl
 have a3:=KS.p.k _ i Z;have Y:pJ (k+1,H) vb.f M=.tuple #[.int .i64 ((vb.f.k (k+1)-1:Nat):Int),vA ((M (k+1)).getD 0 (0,0)),.bool true]:=by unfold pJ;rw[aa (λh=>h.elim (λh=>by cases h) (λh=>Z h))]
 have hF:=KS.p.s (k+1) (by omega) (by omega) i;have s0:=hF.cell 0 (by omega);have s1:=hF.cell 1 (by omega);have q0:eC (jQ M (k+1)) 0=.int .i64 (((M (k+1)).getD 0 (0,0)).1:Int):=rfl;have q1:eC (jQ M (k+1)) 1=.int .i64 ((M (k+1)).getD 0 (0,0)).2:=rfl;rw[q0]at s0;rw[q1]at s1;have lf:=hF.lt;rw[Y];rw[e0,e1,e2,a3]at ha;generalize (M (k+1)).getD 0 (0,0)=y at *;generalize vb.f.k (k+1)-1=ff at *;generalize vb.f.b (k+1)=g at *;have HA:=az ha;clear ha e0 e1 e2 W J a0 a1 i Y Z hF a3 q0 q1;go_in;go_wp2_with fail
 refine(HA _ (KS.kept (au (ah _ _ _) _))).mono ?_;rintro e w1 ⟨rfl,o⟩;have G:=az (an (au (ah w _ none) _) o);obtain⟨r0,r1,t0,t1,lx⟩:=a2 w1 o;have p0:=(bh G (a:=⟨g,0,none⟩) lf).1.trans s0;have p1:=(bh G (a:=⟨g,1,none⟩) lf).1.trans s1;have a6:=dm lf G.size;clear o s0 s1;go_wp2_with fail
 go_region
 all_goals
  go_wp2_with fail
  refine da (v:=.tuple #[.int .i64 ff,vA y,.bool true]) (by simp[results,results162,go_sem,oS,lx,r0,r1]) rfl ⟨?_,rfl⟩;repeat (first|exact G|refine bq ?_|refine au ?_ _|refine bp ?_ (ab (by simp)) _)
theorem CM(on:Nat->Bool)(f:Fb)(M:Nat->List B.V)(i:Nat)(j:Nat): iM (B.free on (i+1)) f M j=ep (ep (ep (iM on f M) (i*3) (.int .u8 0)) (i*3+1) (.int .i64 0)) (i*3+2) (.slice none 0 0) j:=by
 by_cases o:j=i*3+2
 .subst o;rw[gf,sQ,B.rK];rfl
 rw[eG _ _ _ _ o];by_cases y:j=i*3+1
 .subst y;rw[gf,zH,B.rK];rfl
 rw[eG _ _ _ _ y];by_cases u:j=i*3
 .subst u;rw[gf,zI,B.rK];rfl
 rw[eG _ _ _ _ u]
 unfold iM;rw[B.xK _ _ _ (by omega)]
theorem A8(cb rd sb pb n:Nat)(ad:Option Addr)(cap:Nat)(c:B.Cy)(on:Nat->Bool)(f:Fb)(M:Nat->List B.V)(w:World)(o:kY w cb rd sb n ad cap c)(hP:ow w pb n on f M)(h0:w.cell? ⟨sb,0,none⟩=some (.slice (some ⟨pb,0,none⟩) n n))(hx:c.nx<n)(hn:n<=200): Calls prog 190 #[P0 cb] w λe w'=>e=.returned (.tuple #[])/\kY w' cb rd sb n ad cap (B.look c)/\ow w' pb n (B.kh on c) f M/\dy (λk=>k=pb\/k=cb) w w':=by
 have KC:=az o;have y:=az hP;obtain⟨c0,c1,_,c3,_,f3⟩:=o.c1;have m0:=o.r.cell c.nx hx;have G:pb≠cb:=by obtain⟨cu,h,_⟩:=hP.p;exact dW h o.b (by decide)
 have a4:pb≠rd:=by obtain⟨cu,h,_⟩:=hP.p;obtain⟨Y,W,_⟩:=o.r;exact dW h W (by decide)
 have a7:(c.nx:Int)<(n:Int):=by omega
 have a8:IntKind.i64.wrap ((c.nx:Int)+1)=((c.nx:Int)+1):=by simp[IntKind.wrap,IntKind.bits,IntKind.signed];omega
 have a5:wrap64 ((c.nx:Int)+1)=((c.nx:Int)+1):=bd _ ⟨by omega,by omega⟩;have hq:∀k,(Value.slice ad c.st.length cap).ownBlock=some k->k≠cb/\k≠pb:=λk u=>by
  obtain⟨cu,h⟩:=o.q.ty k u;refine⟨dW h o.b (by decide),?_⟩;obtain⟨Y,W,_⟩:=hP.p;exact dW h W (by decide)
 have HQ:=az hq;have a0:rd≠cb:=by obtain⟨Y,W,_⟩:=o.r;exact dW W o.b (by decide)
 have Z:∀p,1<=p->p<=n->on p=true->f.b p≠cb/\f.b p≠pb:=λp a b d=>by
  obtain⟨cu,h,_⟩:=hP.s p a b d;refine⟨dW h o.b (by decide),?_⟩;obtain⟨Y,W,_⟩:=hP.p;exact dW h W (by decide)
 have a2:=az Z
 cases hm:c.m (c.nx+1)
 .obtain⟨p0,z0⟩:=y.out.p.cells (c.nx*3) (by omega);obtain⟨p1,z1⟩:=y.out.p.cells (c.nx*3+1) (by omega);obtain⟨p2,z2⟩:=y.out.p.cells (c.nx*3+2) (by omega);generalize iM on f M (c.nx*3)=y0 at p0;generalize iM on f M (c.nx*3+1)=y1 at p1;generalize iM on f M (c.nx*3+2)=y2 at p2;rw[hm]at m0;have HM:=az hm;have a6:=az (ay c0 (ay c1 c3));generalize J:c.nx=x at *;go_in;go_wp2_with fail
  go_quiet (fail)
  go_wp2_with fail
  go_region
  go_wp2_with fail
  go_end0;subst J;have H:B.kh on c=B.free on (c.nx+1):=by unfold B.kh;rw[aa (by rw[HM.out];decide)]
  have a1:∀k,k≠pb->((((w.drewN (nq+1)).setCell ⟨pb,c.nx*3,none⟩ (.int .u8 0)).setCell ⟨pb,c.nx*3+1,none⟩ (.int .i64 0)).setCell ⟨pb,c.nx*3+2,none⟩ (.slice none 0 0)).heap[k]? = w.heap[k]?:=λk u=>by
   rw[af _ _ _ _ u,af _ _ _ _ u,af _ _ _ _ u];rfl
  refine⟨rfl,kY.step (KC.out.block (λk u=>a1 k ?_)) a0 (λk u=>(HQ.out k u).1),⟨?_,λp a b d=>?_,λp q a b d e g h=>y.out.i p q a b d e (iS _ _ _ g) (iS _ _ _ h),λp a=>y.out.l p (iS _ _ _ a),λp a=>y.out.k p (iS _ _ _ a)⟩,?_⟩
  .rcases u with h|h|h
   .rw[h];exact λe=>G e.symm
   .rw[h];exact λe=>a4 e.symm
   exact(HQ.out k (by rw[dr];exact h)).2
  .rw[H];have hP:Full (w.drewN (nq+1)) pb 228 (n*3) (n*3) (iM on f M):=y.out.p;exact((((hP.ep (c.nx*3) (.int .u8 0)).ep (c.nx*3+1) (.int .i64 0)).ep (c.nx*3+2) (.slice none 0 0)).congr (λj _=>(CM on f M c.nx j).symm)).off G
  .have h:=a2.out p a b (iS _ _ _ d);exact((y.out.s p a b (iS _ _ _ d)).block (a1 _ h.2)).off h.1
  exact bm (bm (bm (bm (sZ (dk _ _) _) (ag (ag rfl)) _) (ag (ag rfl)) _) (ag (ag rfl)) _) (ag (ab rfl)) _
 rw[hm]at m0;have HM:=az hm;generalize J:c.nx=x at *;go_in;go_wp2_with fail
 go_quiet (fail)
 go_wp2_with fail
 go_end0;subst J;have H:B.kh on c=on:=by unfold B.kh;rw[aj HM.out]
 rw[H];have o:kY (w.drewN nq) cb rd sb n ad cap c:=KC.out.block (λ_ _=>rfl);have hP:ow (w.drewN nq) pb n on f M:=y.out.block rfl (λ_ _ _ _=>rfl);refine⟨rfl,o.step a0 (λk u=>(HQ.out k u).1),hP.block (af _ _ _ _ G) (λp a b d=>af _ _ _ _ (a2.out p a b d).1),bm (sZ (dk _ _) _) (ag (ab rfl)) _⟩
def Io(w0 w:World)(cb rd sb n pb:Nat)(ad:Option Addr)(c:B.Cy)(st:List Nat)(on:Nat->Bool)(f:Fb)(M:Nat->List B.V)(l:List B.V):Prop:=
 dy (nh cb rd ad) w0 w/\ow w pb n on f M/\∃ad' cap',vY ad ad' w0.heap.size/\kY w cb rd sb n ad' cap' ⟨(B.fY c.m st l).1,(B.fY c.m st l).2,c.nx⟩
theorem Io.kept{w0 w w':World}{cb u sb n pb:Nat}{ad:Option Addr}{c:B.Cy}{y:List Nat}{on:Nat->Bool}{f:Fb}{M:Nat->List B.V}{l:List B.V}(h:Io w0 w cb u sb n pb ad c y on f M l)(i:w.grownBy w' none):Io w0 w' cb u sb n pb ad c y on f M l:=by
 obtain⟨H,J,o,e,W,G⟩:=h;exact⟨H.gR i,J.kept i,o,e,W,G.kept i⟩
theorem rq{w:World}{cb y sb n pb m:Nat}{ad:Option Addr}{cap:Nat}{c:B.Cy}{on:Nat->Bool}{f:Fb}{M:Nat->List B.V}(hP:ow w pb m on f M)(W:kY w cb y sb n ad cap c):¬nh cb y ad pb/\∀p,1<=p->p<=m->on p=true->¬nh cb y ad (f.b p):=by
 have o:∀(k:Nat) (u:Array Value) (T:TypeId),w.heap[k]? = some (.cells u T (0,0))->T≠275/\T≠4/\T≠3->¬nh cb y ad k:=by
  intro k u T J G h;obtain⟨H,T',i,e⟩:=W.ty k h;rw[J]at i;injection i with i;injection i with _ i _
  subst i;rcases e with e|e|e
  .exact G.1 e
  .exact G.2.1 e
  exact G.2.2 e
 refine⟨?_,λp a b d=>?_⟩
 .obtain⟨H,h,_⟩:=hP.p;exact o _ _ _ h (by decide)
 obtain⟨H,h,_⟩:=hP.s p a b d;exact o _ _ _ h (by decide)
theorem B3{w0 w:World}{cb Y sb n pb:Nat}{ad:Option Addr}{c:B.Cy}{y:List Nat}{on:Nat->Bool}{f:Fb}{M:Nat->List B.V}{l:List B.V}(v:B.V)(h:Io w0 w cb Y sb n pb ad c y on f M l)(hn:n<=200)(hs:y.length+B.kX c.m n<=n)(hl:∀v,v∈l->v.1≠0->v.1<=n)(hv:v.1≠0->v.1<=n): Calls prog 188 #[P0 cb,vA v] w λe w'=>e=.returned (.tuple #[])/\Io w0 w' cb Y sb n pb ad c y on f M (l++[v]):=by
 obtain⟨h1,hP,J,i,h2,h3⟩:=h;have u:(B.fY c.m y l).2.length<=200:=by have:=B.me (n:=n) l c.m y hl;omega
 have o:=rq hP h3;refine(qd cb Y sb n J i _ v w h3 hv hn u).mono ?_;rintro e w' ⟨rfl,Z,G,h4,h5,W⟩;refine⟨rfl,h1.trans W (λk hk hl=>(h2.Hz hk).resolve_right (by omega)),hP.block (W.same hP.p.lt o.1) (λp a b d=>W.same (hP.s p a b d).lt (o.2 p a b d)),Z,G,h2.trans h4 h1.size,?_⟩;rw[B.oM];exact h5
theorem AH(cb rd sb pb n p:Nat)(ad:Option Addr)(cap:Nat)(c:B.Cy)(st:List Nat)(on:Nat->Bool)(f:Fb)(M:Nat->List B.V)(w:World)(hC:kY w cb rd sb n ad cap c)(hP:ow w pb n on f M)(h0:w.cell? ⟨sb,0,none⟩=some (.slice (some ⟨pb,0,none⟩) n n))(hsb:¬nh cb rd ad sb)(hst:c.st=st++[p])(hp:1<=p/\p<=n/\on p=true)(hv:∀v,v∈M p->v.1≠0->v.1<=n)(hs:st.length+B.kX c.m n<=n)(hn:n<=200): Calls prog 189 #[P0 cb] w λe w'=>e=.returned (.tuple #[])/\ow w' pb n on f M/\dy (nh cb rd ad) w w'/\∃ad' cap',vY ad ad' w.heap.size/\kY w' cb rd sb n ad' cap' (B.AI M c st p):=by
 obtain⟨k,rfl⟩:∃k,p=k+1:=⟨p-1,by omega⟩;have hkd:=hp.2.2
 have hC2:w.heap[cb]? = some (.cells #[P0 sb,.slice (some ⟨rd,0,none⟩) n n,.slice ad (st.length+1) cap,.int .i64 c.nx] 275 (0,0)):=by have:=hC.b;rw[hst,bo,eF]at this;exact this
 have hq:fM w 3 (.slice ad ((mD st).length+1) cap) (mD st++[.int .i64 (k:Int)]):=by
  have:=hC.q;rw[hst,zq,bo,eF,<-uV st]at this;exact this
 obtain⟨g,off,rfl,lg,hcap,hlast,hq2⟩:=hq.pop;rw[uV]at hcap hlast hq2;obtain⟨e0,_,e2,_⟩:w.cell? ⟨cb,0,none⟩=some (P0 sb)/\True/\w.cell? ⟨cb,2,none⟩=some (.slice (some ⟨g,off,none⟩) (st.length+1) cap)/\True:=by simp[World.cell?,hC2]
 have z2:w.frozen? ⟨cb,2,none⟩=false:=by simp[World.frozen?,hC2]
 have p2:=hP.p.cell (k*3+2) (by omega);rw[sQ,hkd]at p2;have hsl:oL true (f.b (k+1)) (M (k+1)).length=.slice (some ⟨f.b (k+1),0,none⟩) (M (k+1)).length (M (k+1)).length:=rfl;rw[hsl]at p2;have hne:=rq hP hC;have npc:¬pb=cb:=λe=>hne.1 (ag e);have ngc:g≠cb:=by
  obtain⟨cu,h⟩:=hq.ty g rfl;exact dW h hC2 (by decide)
 have ncg:¬cb=g:=λe=>ngc e.symm;have hl8:=hP.l _ hkd;have hsb2:st.length<=200:=by omega
 have hcl:st.length<=cap:=by omega
 have KT:Hid (Io w (w.setCell ⟨cb,2,none⟩ (.slice (some ⟨g,off,none⟩) st.length cap)) cb rd sb n pb (some ⟨g,off,none⟩) c st on f M []):=by
  refine⟨bm (dk _ _) (ag (ag rfl)) _,hP.block (af _ _ _ _ (λe=>npc e)) (λp a b d=>af _ _ _ _ (λe=>hne.2 p a b d (ag e))),some ⟨g,off,none⟩,cap,vY.refl _ _,⟨?_,hC.r.off (by obtain⟨cu',h',_⟩:=hC.r;exact dW h' hC2 (by decide)),hq2.block (λx hx=>af _ _ _ _ ?_)⟩⟩
  .simp[World.setCell,cn,hC2,B.fY]
  have e:g=x:=by injection hx
  subst e;exact ngc
 have HV:=az hv;have HST:=az hs;have HPL:=az hp;have hki:(k:Int)<(n:Int):=by omega
 have hli:(st.length:Int)<(st.length:Int)+1:=by omega
 have hsub:(st.length:Int)+1-1=(st.length:Int):=by omega
 have hwr:IntKind.i64.wrap (st.length:Int)=(st.length:Int):=by simp[IntKind.wrap,IntKind.bits,IntKind.signed];omega
 have hwr2:wrap64 (st.length:Int)=(st.length:Int):=bd _ ⟨by omega,by omega⟩;generalize hln:st.length=ln at *;have HLN:=az hln;clear hC hP hC2 hq hq2 hst hne hs hv hsl hp hln hsb;go_in;go_wp2_with fail
 generalize hW:w.setCell ⟨cb,2,none⟩ (.slice (some ⟨g,off,none⟩) ln cap)=w1 at *;clear hW e0 e2 z2 h0 p2 hlast;go_loopw [40] (λi wr=>∃j:Nat,j<=(M (k+1)).length/\i=.int .i64 j/\Hid (Io w wr cb rd sb n pb (some ⟨g,off,none⟩) c st on f M ((M (k+1)).take j))) (λi _=>(M (k+1)).length-(intOf i).toNat)
 case atStart=>exact⟨0,by omega,rfl,KT⟩
 case round=>
  obtain⟨j,hj,rfl,hX⟩:=hrel;by_cases hlt:j<(M (k+1)).length
  .have hF:=hX.out.2.1.s (k+1) HPL.out.1 HPL.out.2.1 HPL.out.2.2;have r0:=hF.cell (j*2) (by omega);have r1:=hF.cell (j*2+1) (by omega);rw[nE]at r0;rw[nD]at r1;clear hF;have hmem:jQ M (k+1) j∈M (k+1):=by
    show(M (k+1)).getD j (0,0)∈M (k+1);rw[ar,bn hlt];exact List.getElem_mem hlt
   have htk:(M (k+1)).take (j+1)=(M (k+1)).take j++[jQ M (k+1) j]:=by
    rw[List.take_succ_eq_append_getElem hlt];congr 1
    show[_]=[(M (k+1)).getD j (0,0)];rw[ar,bn hlt];rfl
   generalize hvv:jQ M (k+1) j=vv at *;have HTK:=az htk;have HMem:=az hmem;clear htk hmem hvv;have hji:(j:Int)<((M (k+1)).length:Int):=by omega
   generalize hll:(M (k+1)).length=ml at *;clear hll;go_wp2_with fail
   refine(B3 vv (hX.out.kept (ah _ _ _)) hn (by rw[HLN.out];exact HST.out) (λv hv h0=>HV.out v (List.mem_of_mem_take hv) h0) (HV.out vv HMem.out)).mono ?_;rintro e w5 ⟨rfl,hV5⟩;rw[<-HTK.out]at hV5;have KV5:=az hV5;clear hV5 r0 r1;go_wp2_with fail
   go_roundw
   case rel=>exact⟨j+1,by omega,by go_num,KV5⟩
   case measure=>simp[intOf];omega
  have hjl:j=(M (k+1)).length:=by omega
  have hX2:=hX.out;rw[hjl,List.take_length]at hX2;have KX:=az hX2;clear hX2;go_wp2_with fail
  go_end0;obtain⟨x1,x2,ad',cap',x3,x4⟩:=KX.out;exact⟨rfl,x2,x1,ad',cap',x3,x4⟩
theorem uj(cb o sb pb n:Nat)(ad:Option Addr)(cap:Nat)(c:B.Cy)(on:Nat->Bool)(f:Fb)(M:Nat->List B.V)(T:Nat->Prop)(w:World)(H:kY w cb o sb n ad cap c)(hP:ow w pb n on f M)(G:w.cell? ⟨sb,0,none⟩=some (.slice (some ⟨pb,0,none⟩) n n))(u:¬nh cb o ad sb)(y:B.lR on n M c T)(hs:c.st.length+B.kX c.m n<=n)(hx:c.nx<n)(hn:n<=200): Calls prog 136 #[P0 cb] w λe w'=>e=.returned (.tuple #[])/\ow w' pb n (B.unit M on c).1 f M/\dy (λk=>k=pb\/nh cb o ad k) w w'/\∃a1 Y,vY ad a1 w.heap.size/\kY w' cb o sb n a1 Y (B.unit M on c).2:=by
 obtain⟨_,_,e2,_,_,_⟩:=H.c1;have lc:=bz H.b;rcases List.eq_nil_or_concat c.st with i|⟨st,p,i⟩
 .have HL:=az (A8 cb o sb pb n ad cap c on f M w H hP G hx hn);rw[B.nV i];rw[i]at e2;go_in;go_wp2_with fail
  refine HL.out.mono ?_;rintro e w1 ⟨rfl,h1,W,Z⟩;have J:=az (ay W (ay (Z.mono (S1:=λk=>k=pb\/nh cb o ad k) (λk hk _=>hk.imp id (λh=>ag h))) h1));go_wp2_with fail
  go_end0;exact⟨rfl,J.out.1,J.out.2.1,ad,cap,vY.refl _ _,J.out.2.2⟩
 rw[List.concat_eq_append]at i;have a0:=y.hc p (y.hd p (by rw[i];simp))
 have HL:=az (AH cb o sb pb n p ad cap c st on f M w H hP G u i (y.ha p a0) (λv hv G=>(y.ha _ ((y.hb p a0 v hv).2 G)).2.1) (by rw[i]at hs;simp at hs;omega) hn);rw[B.nU i];rw[i,bo,eF]at e2;have a4:(0:Int)<(st.length:Int)+1:=by omega
 go_in;go_wp2_with fail
 refine HL.out.mono ?_;rintro e w1 ⟨rfl,h1,W,Z⟩;have J:=az (ay h1 (ay (W.mono (S1:=λk=>k=pb\/nh cb o ad k) (λk hk _=>ab hk)) Z));go_wp2_with fail
 go_end0;exact⟨rfl,J.out⟩
structure BG(w:World) (Q:Nat->Prop) (eb sb pb n nr:Nat) (kd:B.Kd) (vb:Vs) (s:B.St):Prop where
 hv:IC Q w eb nr s.2.1
 hq:∀k,Q k->k<w.heap.size/\k≠sb
 hs:jm w sb pb eb n kd vb s.2.2
 hh:B.iZ kd nr n s
 n1:1<=n
 n2:n<=200
theorem BG.kept{w w':World}{Q:Nat->Prop}{eb sb pb n nr:Nat}{kd:B.Kd}{vb:Vs}{s:B.St}(h:BG w Q eb sb pb n nr kd vb s)(o:w.grownBy w' none):BG w' Q eb sb pb n nr kd vb s:=
 ⟨h.hv.block (λk i=>o.block k (h.hq k i).1 (by intro e;cases e)),λk i=>⟨dm (h.hq k i).1 o.size,(h.hq k i).2⟩,h.hs.kept o,h.hh,h.n1,h.n2⟩
theorem BG.roots{w:World}{Q:Nat->Prop}{eb sb pb n nr:Nat}{kd:B.Kd}{vb:Vs}{s:B.St}(h:BG w Q eb sb pb n nr kd vb s):∀i,i<nr->(s.2.1 i).1≠0->(s.2.1 i).1<=n:=λi hi e=>(B.kJ h.hh (B.jj i hi e)).2.2
theorem jm.cells{w:World}{sb pb eb n:Nat}{kd:B.Kd}{vb:Vs}{M:Nat->List B.V}(h:jm w sb pb eb n kd vb M): w.cell? ⟨sb,1,none⟩=some (.func (.func 59) #[P0 eb] #[])/\w.cell? ⟨sb,2,none⟩=some (yg kd vb)/\w.cell? ⟨sb,3,none⟩=some (.int .i64 (wrap64 (kd.un:Int)))/\w.cell? ⟨sb,4,none⟩=some (.int .i64 (wrap64 (kd.fo:Int)))/\w.cell? ⟨sb,5,none⟩=some (.int .i64 (wrap64 (kd.cc:Int)))/\w.frozen? ⟨sb,2,none⟩=false/\w.frozen? ⟨sb,3,none⟩=false/\w.frozen? ⟨sb,4,none⟩=false/\w.frozen? ⟨sb,5,none⟩=false:=by
 simp[World.cell?,World.frozen?,h.b]
def LK(w wr:World)(cb rd sb pb n nr:Nat)(kd:B.Kd)(vb:Vs)(s:B.St)(o:Obj):Prop:=
 ∃c on ad cap,kY wr cb rd sb n ad cap c/\ow wr pb n on vb.f s.2.2/\B.lR on n s.2.2 c (B.Reach nr s)/\c.st.length+B.kX c.m n<=n/\(∀p,on p=true->kd.on p=true)/\(∀k,nh cb rd ad k->w.heap.size<=k)/\dy (λk=>k=sb\/k=pb) w wr/\wr.heap[sb]? = some o
theorem Bm(Q:Nat->Prop)(eb sb pb n nr:Nat)(kd:B.Kd)(vb:Vs)(s:B.St)(w:World)(hR:BG w Q eb sb pb n nr kd vb s): Calls prog 219 #[P0 sb] w λe w'=>e=.returned (.tuple #[])/\∃on:Nat->Bool,(∀p,1<=p->p<=n->(on p=true↔B.Reach nr s p))/\(∀p,on p=true->kd.on p=true)/\(∀p,B.Reach nr s p->on p=true)/\dy (λk=>k=sb\/k=pb) w w'/\jm w' sb pb eb n ⟨on,none,kd.un,kd.fo+1,kd.cc⟩ vb s.2.2:=by
 have KR:=az hR;obtain⟨c1,c2,c3,c4,c5,z2,z3,z4,z5⟩:=hR.hs.cells;have ls:=bz hR.hs.b;have hn:=hR.n2;have hn1:=hR.n1;have a5:sb≠pb:=by obtain⟨cu,h,_⟩:=hR.hs.p.p;exact dW hR.hs.b h (by decide)
 have HB:=az hR.hs.b;generalize hy:wrap64 (kd.fo:Int)=y at *;generalize aH:yg kd vb=cv at *;have HY:=az hy;go_in;go_wp2_with fail
 generalize hW:(w.setCell ⟨sb,4,none⟩ (.int .i64 (wrap64 (y+1)))).setCell ⟨sb,2,none⟩ (.pointer none)=w2;have aM:w2.heap.size=w.heap.size:=by rw[<-hW];simp[World.setCell]
 have Y:∀k,k≠sb->w2.heap[k]? = w.heap[k]?:=λk G=>by rw[<-hW,af _ _ _ _ G,af _ _ _ _ G]
 have Z:w2.heap[sb]? = some (.cells #[.slice (some ⟨pb,0,none⟩) n n,.func (.func 59) #[P0 eb] #[],.pointer none,.int .i64 (wrap64 (kd.un:Int)),.int .i64 (wrap64 (y+1)),.int .i64 (wrap64 (kd.cc:Int))] 207 (0,0)):=by
  rw[<-hW];have:=HB.out;simp[World.setCell,cn,this]
 have a8:Hid (dy (λk=>k=sb\/k=pb) w w2):=by
  show dy _ _ _;rw[<-hW];exact bm (bm (dk _ _) (ag (ag rfl)) _) (ag (ag rfl)) _
 have d0:w2.cell? ⟨sb,0,none⟩=some (.slice (some ⟨pb,0,none⟩) n n):=by simp[World.cell?,Z]
 have d1:w2.cell? ⟨sb,1,none⟩=some (.func (.func 59) #[P0 eb] #[]):=by simp[World.cell?,Z]
 generalize ho:(.cells #[.slice (some ⟨pb,0,none⟩) n n,.func (.func 59) #[P0 eb] #[],.pointer none,.int .i64 (wrap64 (kd.un:Int)),.int .i64 (wrap64 (y+1)),.int .i64 (wrap64 (kd.cc:Int))] 207 (0,0):Obj)=o at *;have HO:=az ho;have aA:=az Z;have a0:Hid (ow w2 pb n kd.on vb.f s.2.2):=KR.out.hs.p.block (Y pb (λe=>a5 e.symm)) (λp a b d=>Y _ (by
  obtain⟨cu,h,_⟩:=KR.out.hs.p.s p a b d;exact dW h HB.out (by decide)))
 have a7:=az (KR.out.hv.block (λk G=>Y k (KR.out.hq k G).2));clear hW Y ho Z c1 c2 c3 c4 c5 z2 z3 z4 z5;refine(tJ Q eb sb pb n nr s.2.1 w2 d0 d1 a7.out (λk G=>by have:=(KR.out.hq k G).1;omega) hn KR.out.roots).mono ?_;rintro e w3 ⟨cb,rd,ad,cap,rfl,u,a3,aC⟩;have aF:Hid (LK w w3 cb rd sb pb n nr kd vb s o):=by
  refine⟨_,kd.on,ad,cap,aC,a0.out.block (u.block pb a0.out.p.lt) (λp a b d=>u.block _ (a0.out.s p a b d).lt),B.su KR.out.hh,Bz KR.out.hh,λ_ h=>h,λk G=>by have:=a3 k G;omega,?_,(u.block sb (by omega)).trans aA.out⟩;exact a8.out.trans (S1:=λ_=>False) ⟨u.os,u.tape,u.output,u.size,λk G _=>u.block k G⟩ (λ_ h _=>h.elim)
 go_wp2_with fail
 go_loopw [] (λwr=>Hid (LK w wr cb rd sb pb n nr kd vb s o)) (λwr=>todo wr cb rd n)
 case atStart=>exact aF
 case round=>
  obtain⟨c,on,a9,a1,h1,h2,W,h4,h5,h6,h7,h8⟩:=hrel.out;have HT:=az (zn h1);have H:=az (ay h1 (ay h2 (ay W (ay h4 (ay h5 (ay h6 (ay h7 h8)))))));have HE:=az (tF cb rd sb n a9 a1 c wr h1);by_cases hx:c.nx=n
  .have hd:decide (c.nx=n)=true:=by simpa using hx
   rw[hd]at HE;have aB:=az hx;go_wp2_with fail
   refine HE.out.mono ?_;rintro e w4 ⟨rfl,J⟩;have i:=az J;go_wp2_with fail
   go_end0;obtain⟨h1,h2,W,h4,h5,h6,h7,h8⟩:=H.out;refine⟨rfl,on,λp a b=>?_,h5,λp hp=>(W.ha p hp).2.2,h7.gR i.out,⟨?_,h2.kept i.out,λc hc=>by cases hc⟩⟩
   .rw[<-W.last (W.hg (by omega)) p];exact⟨W.hi p a (by omega),λhm=>(W.ha p (W.hc p hm)).2.2⟩
   have:=cm i.out h8 (by intro e;cases e);rw[this,<-HO.out,<-HY.out,pT];rfl
  have hd:decide (c.nx=n)=false:=by simpa using hx
  rw[hd]at HE;have a6:c.nx<n:=by have:=H.out.2.2.1.hh;omega
  have a2:=az a6;go_wp2_with fail
  refine HE.out.mono ?_;rintro e w4 ⟨rfl,J⟩;have i:=az J;go_wp2_with fail
  have aD:w4.cell? ⟨sb,0,none⟩=some (.slice (some ⟨pb,0,none⟩) n n):=by
   have:=cm i.out H.out.2.2.2.2.2.2.2 (by intro e;cases e);rw[<-HO.out]at this;simp[World.cell?,this]
  refine(uj cb rd sb pb n a9 a1 c on vb.f s.2.2 (B.Reach nr s) w4 (H.out.1.kept i.out) (H.out.2.1.kept i.out) aD (λh=>?_) H.out.2.2.1 H.out.2.2.2.1 a2.out hn).mono ?_
  .have:=H.out.2.2.2.2.2.1 sb h;omega
  rintro e w5 ⟨rfl,u1,u2,aL,a4,u3,u4⟩;have aK:=AA H.out.2.2.1 a2.out;have aJ:=zn u4;have aO:=i.out.size;have aN:=H.out.2.2.2.2.2.2.1.size;have aI:Hid (LK w w5 cb rd sb pb n nr kd vb s o):=by
   obtain⟨h1,h2,W,h4,h5,h6,h7,h8⟩:=H.out;refine⟨_,_,aL,a4,u4,u1,B.uo W a2.out,by omega,λp hp=>h5 p (B.mK hp),λk G=>?_,(h7.gR i.out).trans u2 (λk G hl=>?_),(u2.same (by omega) (λh=>?_)).trans (cm i.out h8 (by intro e;cases e))⟩
   .rcases u3.Hz G with h|h
    .exact h6 k h
    omega
   .rcases G with h|h
    .exact ab h
    exact ch (h6 k h) (by omega)
   rcases h with h|h
   .exact a5 h
   exact ch (h6 sb h) (by omega)
  have aG:Hid (todo w5 cb rd n<todo wr cb rd n):=by show _<_;have:=HT.out;omega
  go_wp2_with fail
  go_roundw
  case rel=>exact aI
  case measure=>exact aG.out
theorem mu{kd:B.Kd}{vb:Vs}{c:B.Cy}(h:kd.cy=some c):yg kd vb=P0 vb.cb:=by unfold yg;rw[h];rfl
theorem mx{kd:B.Kd}{vb:Vs}(h:kd.cy=none):yg kd vb=.pointer none:=by unfold yg;rw[h];rfl
def pP(sb pb n:Nat)(kd:B.Kd)(vb:Vs)(k:Nat):Prop:=k=sb\/k=pb\/Own n kd vb k
def ox(n:Nat)(kd:B.Kd)(vb:Vs)(kd':B.Kd)(vb':Vs)(sz:Nat):Prop:=∀k,Own n kd' vb' k->Own n kd vb k\/sz<=k
theorem ox.refl(n:Nat)(kd:B.Kd)(vb:Vs)(sz:Nat):ox n kd vb kd vb sz:=λ_ h=>ag h
def Kj(w wr:World)(eb sb pb n:Nat)(kd:B.Kd)(vb:Vs)(s:B.St)(nr:Nat)(kd':B.Kd):Prop:=
 ∃vb',jm wr sb pb eb n kd' vb' s.2.2/\B.iZ kd' nr n s/\dy (pP sb pb n kd vb) w wr/\ox n kd vb kd' vb' w.heap.size/\vb'.f=vb.f
theorem jm.ju{w:World}{sb pb eb n:Nat}{kd:B.Kd}{vb:Vs}{M:Nat->List B.V}(h:jm w sb pb eb n kd vb M):sb≠pb/\∀k,Own n kd vb k->k≠sb/\k≠pb:=by
 obtain⟨G,i,_⟩:=id h.p.p;refine⟨dW h.b i (by decide),λk u=>?_⟩;obtain⟨y,T,o,e⟩:=h.ty k u;refine⟨dW o h.b ?_,dW o i ?_⟩
 .rcases e with rfl|rfl|rfl|rfl<;>decide
 rcases e with rfl|rfl|rfl|rfl<;>decide
theorem wJ{w:World}{sb pb eb n:Nat}{kd:B.Kd}{vb:Vs}{M:Nat->List B.V}{c:B.Cy}{ad:Option Addr}{cap:Nat}{x:Value}{cc:Nat}(y:w.heap[sb]? = some (.cells #[.slice (some ⟨pb,0,none⟩) n n,.func (.func 59) #[P0 eb] #[],x,.int .i64 (wrap64 ((kd.un+1:Nat):Int)),.int .i64 (wrap64 (kd.fo:Int)),.int .i64 (wrap64 (cc:Int))] 207 (0,0)))(hx:((B.unit M kd.on c).2.nx=n/\x=.pointer none/\cc=kd.cc+1)\/((B.unit M kd.on c).2.nx≠n/\x=P0 vb.cb/\cc=kd.cc))(u:ow w pb n (B.unit M kd.on c).1 vb.f M)(G:kY w vb.cb vb.rd sb n ad cap (B.unit M kd.on c).2): jm w sb pb eb n (B.ki M n kd c) { vb with ad:=ad,cap:=cap } M:=by
 rcases hx with⟨e,rfl,rfl⟩|⟨e,rfl,rfl⟩
 .have o:B.ki M n kd c=⟨(B.unit M kd.on c).1,none,kd.un+1,kd.fo,kd.cc+1⟩:=by unfold B.ki;rw[aj e]
  rw[o];exact⟨y,u,λc i=>by cases i⟩
 have o:B.ki M n kd c=⟨(B.unit M kd.on c).1,some (B.unit M kd.on c).2,kd.un+1,kd.fo,kd.cc⟩:=by unfold B.ki;rw[aa e]
 rw[o];refine⟨y,u,λH i=>?_⟩;have e:(B.unit M kd.on c).2=H:=by injection i
 subst e;exact G
theorem CN{n k:Nat}{kd:B.Kd}{vb:Vs}{M:Nat->List B.V}{c:B.Cy}{ad:Option Addr}{cap sz:Nat}(G:kd.cy=some c)(y:vY vb.ad ad sz)(i:Own n (B.ki M n kd c) { vb with ad:=ad,cap:=cap } k):Own n kd vb k\/sz<=k:=by
 have o:∀p,(B.ki M n kd c).on p=true->kd.on p=true:=λp u=>by
  have e:(B.ki M n kd c).on=(B.unit M kd.on c).1:=by unfold B.ki;split<;>rfl
  rw[e]at u;exact B.mK u
 rcases i with⟨p,a,b,d,e⟩|⟨_,i⟩
 .exact ag (ag ⟨p,a,b,o p d,e⟩)
 exact(y.Hz i).imp (λh=>ab ⟨by rw[G];rfl,h⟩) id
theorem BP(Q:Nat->Prop)(eb sb pb n nr u:Nat)(kd:B.Kd)(vb:Vs)(s:B.St)(w:World)(hR:BG w Q eb sb pb n nr kd vb s)(hu:u<=50): Calls prog 69 #[P0 sb,.int .i64 u] w λe w'=>e=.returned (.tuple #[])/\Kj w w' eb sb pb n kd vb s nr (B.work s.2.1 nr s.2.2 n u kd):=by
 have KR:=az hR;obtain⟨c1,c2,_⟩:=hR.hs.cells;have c0:=hR.hs.c0;have ls:=bz hR.hs.b;have hn:=hR.n2;clear hR;rcases hcy:kd.cy with _|aY
 all_goals
  first
  |rw[mx hcy]at c2
   have a6:=az hcy;clear hcy;go_in;go_wp2_with fail
   refine(tJ Q eb sb pb n nr s.2.1 w c0 c1 KR.hv (λk G=>(KR.hq k G).1) hn KR.roots).mono ?_;rintro e w1 ⟨cb,rd,ad,cap,rfl,J,aB,aH⟩;have a2:=(J.block sb ls).trans KR.hs.b;have x2:w1.cell? ⟨sb,2,none⟩=some (.pointer none):=by rw[mx a6]at a2;simp[World.cell?,a2]
   have y2:w1.frozen? ⟨sb,2,none⟩=false:=by simp[World.frozen?,a2]
   have aS:Hid (Kj w (w1.setCell ⟨sb,2,none⟩ (P0 cb)) eb sb pb n kd vb s nr { kd with cy:=some (B.begun s.2.1 nr) }):=by
    have hS:=KR.hs;have aI:=hS.ju;have aW:∀k,nh cb rd ad k->k≠sb:=λk G=>by have:=aB k G;omega
    refine⟨{ vb with cb:=cb,rd:=rd,ad:=ad,cap:=cap },⟨?_,?_,?_⟩,B.ti KR.hh KR.n1,?_,?_,rfl⟩
    .simp[World.setCell,cn,a2,yg]
    .exact(hS.p.block (J.block pb hS.p.p.lt) (λp a b d=>J.block _ (hS.p.s p a b d).lt)).block (af _ _ _ _ (λe=>aI.1 e.symm)) (λp a b d=>af _ _ _ _ (aI.2 _ (ag ⟨p,a,b,d,rfl⟩)).1)
    .intro c hc;have e:B.begun s.2.1 nr=c:=by injection hc
     subst e;exact aH.block (λk G=>af _ _ _ _ (aW k G))
    .exact bm ⟨J.os,J.tape,J.output,J.size,λk G _=>J.block k G⟩ (ag (ag rfl)) _
    intro k G;rcases G with⟨p,a,b,d,e⟩|⟨_,G⟩
    .exact ag (ag ⟨p,a,b,d,e⟩)
    exact ab (aB k G)
   have HU:Hid (B.fI s.2.2 n u { kd with cy:=some (B.begun s.2.1 nr) }=B.work s.2.1 nr s.2.2 n u kd):=by
    show _=_;unfold B.work;rw[a6.out]
   clear J aB aH a2;clear c0 c1 c2;go_wp2_with fail
  |rw[mu hcy]at c2
   have a6:=az hcy;clear hcy;have aS:Hid (Kj w w eb sb pb n kd vb s nr kd):=⟨vb,KR.hs,KR.hh,dk _ _,ox.refl _ _ _ _,rfl⟩;have HU:Hid (B.fI s.2.2 n u kd=B.work s.2.1 nr s.2.2 n u kd):=by
    show _=_;unfold B.work;rw[a6.out]
   go_in;go_wp2_with fail
   clear c0 c1 c2
 all_goals
  go_loopw [4] (λi wr=>∃j:Nat,j<=u/\i=.int .i64 j/\Hid (∃kd',Kj w wr eb sb pb n kd vb s nr kd'/\B.fI s.2.2 n (u-j) kd'=B.work s.2.1 nr s.2.2 n u kd)) (λi _=>u-(intOf i).toNat)
  case atStart=>exact⟨0,by omega,rfl,_,aS,HU⟩
  case round=>
   obtain⟨j,hj,rfl,hX⟩:=hrel;obtain⟨kd',⟨o,hS,hH,hO,hG,a3⟩,hU⟩:=hX;obtain⟨_,d2,_,_,_,_,_,_,_⟩:=hS.cells;have lw:=bz hS.b;have HS:=az hS;have HQ:=az (ay hH (ay hO (ay hG (ay hU a3))));clear hS hH hO hG hU a3;by_cases b3:j<u
   .have a9:(j:Int)<u:=by omega
    cases hcy':kd'.cy with
    |none=>
     rw[mx hcy']at d2;have y:=az hcy';clear hcy';go_wp2_with fail
     go_end0;obtain⟨hH,hO,hG,hU,a3⟩:=HQ;rw[B.sj y]at hU;exact⟨rfl,by rw[<-hU];exact⟨o,HS,hH,hO,hG,a3⟩⟩
    |some c=>
     rw[mu hcy']at d2;have y:=az hcy';clear hcy';obtain⟨hx,T,hT,a8⟩:=HQ.1.h3 c y;have aZ:=az a8;have aL:=az (uj o.cb o.rd sb pb n o.ad o.cap c kd'.on o.f s.2.2 T wr (HS.c c y) HS.p HS.c0 (λh=>(HS.ju.2 sb (ab ⟨by rw[y.out];rfl,h⟩)).1 rfl) a8 a8.sum hx hn);have b1:=az hx;clear a8 hT hx;go_wp2_with fail
     refine aL.mono ?_;rintro e w5 ⟨rfl,u1,u2,a0,Y,u3,u4⟩;have W:w5.heap[sb]? = _:=(u2.same lw (λh=>by
      rcases h with h|h
      .exact HS.ju.1 h
      exact(HS.ju.2 sb (ab ⟨by rw[y.out];rfl,h⟩)).1 rfl)).trans HS.b
     rw[mu y]at W;generalize aF:wrap64 (kd'.un:Int)=yu at W;generalize aE:wrap64 (kd'.cc:Int)=yc at W;have x2:w5.cell? ⟨sb,2,none⟩=some (P0 o.cb):=by simp[World.cell?,W]
     have x3:w5.cell? ⟨sb,3,none⟩=some (.int .i64 yu):=by simp[World.cell?,W]
     have y3:w5.frozen? ⟨sb,3,none⟩=false:=by simp[World.frozen?,W]
     have l5:=bz W;have aU:=az W;have a7:=az (ay aF aE);have a5:=az (ay u1 (ay u2 (ay u3 u4)));clear u1 u2 u3 u4 W aF aE d2 aL;go_wp2_with fail
     have aG:(w5.setCell ⟨sb,3,none⟩ (.int .i64 (wrap64 (yu+1)))).heap[sb]? = some (.cells #[.slice (some ⟨pb,0,none⟩) n n,.func (.func 59) #[P0 eb] #[],P0 o.cb,.int .i64 (wrap64 (yu+1)),.int .i64 (wrap64 (kd'.fo:Int)),.int .i64 yc] 207 (0,0)):=by
      have:=aU.out;simp[World.setCell,cn,this]
     have aC:∀k,nh o.cb o.rd a0 k->k≠sb:=λk G e=>by
      rcases a5.2.2.1.Hz G with h|h
      .exact(HS.ju.2 k (ab ⟨by rw[y.out];rfl,h⟩)).1 e
      omega
     have aJ:ow (w5.setCell ⟨sb,3,none⟩ (.int .i64 (wrap64 (yu+1)))) pb n (B.unit s.2.2 kd'.on c).1 o.f s.2.2:=a5.1.block (af _ _ _ _ (λe=>HS.ju.1 e.symm)) (λp a b d=>af _ _ _ _ (HS.ju.2 _ (ag ⟨p,a,b,B.mK d,rfl⟩)).1);have aQ:kY (w5.setCell ⟨sb,3,none⟩ (.int .i64 (wrap64 (yu+1)))) o.cb o.rd sb n a0 Y (B.unit s.2.2 kd'.on c).2:=a5.2.2.2.block (λk G=>af _ _ _ _ (aC k G));have aT:=az aC;have aM:=az aJ;have aA:=az aQ;have aV:=az aG
     have aN:Hid (dy (pP sb pb n kd vb) w (w5.setCell ⟨sb,3,none⟩ (.int .i64 (wrap64 (yu+1))))):=by
      refine bm (HQ.2.1.trans a5.2.1 (λk G hl=>?_)) (ag (ag rfl)) _;rcases G with h|h
      .exact ab (ag h)
      exact ab (ab ((HQ.2.2.1 k (ab ⟨by rw[y.out];rfl,h⟩)).resolve_right (by omega)))
     clear aG aC aJ aQ x2 x3 y3;generalize aX:w5.setCell ⟨sb,3,none⟩ (.int .i64 (wrap64 (yu+1)))=w6 at *;clear aX;refine(tF o.cb o.rd sb n a0 Y _ w6 aA).mono ?_;rintro e w7 ⟨rfl,aD⟩;have a1:=az aD;have Z:=cm aD aV (by intro e;cases e);have aO:=az Z;have aR:Hid (ox n kd vb (B.ki s.2.2 n kd' c) { o with ad:=a0,cap:=Y } w.heap.size):=λk G=>by
      rcases CN y a5.2.2.1 G with h|h
      .exact HQ.2.2.1 k h
      have:=HQ.2.1.size;exact ab (by omega)
     have aP:Hid (B.fI s.2.2 n (u-(j+1)) (B.ki s.2.2 n kd' c)=B.work s.2.1 nr s.2.2 n u kd):=by
      have:=HQ.2.2.2.1;rw[show u-j=(u-(j+1))+1 by omega,B.sh y]at this;exact this
     clear aD;by_cases H:(B.unit s.2.2 kd'.on c).2.nx=n
     .have hd:decide ((B.unit s.2.2 kd'.on c).2.nx=n)=true:=by simpa using H
      rw[hd];have a4:=az H;have z2:w7.cell? ⟨sb,2,none⟩=some (P0 o.cb):=by simp[World.cell?,Z]
      have z5:w7.cell? ⟨sb,5,none⟩=some (.int .i64 yc):=by simp[World.cell?,Z]
      have q2:w7.frozen? ⟨sb,2,none⟩=false:=by simp[World.frozen?,Z]
      have q5:w7.frozen? ⟨sb,5,none⟩=false:=by simp[World.frozen?,Z]
      have l7:=bz Z;clear hd H Z;go_wp2_with fail
      go_roundw
      case rel=>
       refine⟨j+1,by omega,by go_num,_,⟨{ o with ad:=a0,cap:=Y },wJ (cc:=kd'.cc+1) (x:=.pointer none) ?_ (ag ⟨a4,rfl,rfl⟩) ?_ ?_,B.qo HQ.1 y,?_,aR,HQ.2.2.2.2⟩,aP⟩
       .have:=aO.out;rw[<-a7.1,<-a7.2]at *;simp[World.setCell,cn,this,pT]
       .exact((aM.kept a1).block (af _ _ _ _ (λe=>HS.ju.1 e.symm)) (λp a b d=>af _ _ _ _ (HS.ju.2 _ (ag ⟨p,a,b,B.mK d,rfl⟩)).1)).block (af _ _ _ _ (λe=>HS.ju.1 e.symm)) (λp a b d=>af _ _ _ _ (HS.ju.2 _ (ag ⟨p,a,b,B.mK d,rfl⟩)).1)
       .exact((aA.kept a1).block (λk G=>af _ _ _ _ (aT k G))).block (λk G=>af _ _ _ _ (aT k G))
       exact bm (bm (aN.gR a1) (ag (ag rfl)) _) (ag (ag rfl)) _
      case measure=>simp[intOf];omega
     have hd:decide ((B.unit s.2.2 kd'.on c).2.nx=n)=false:=by simpa using H
     rw[hd];have a4:=az H;clear hd H Z;go_wp2_with fail
     go_roundw
     case rel=>
      refine⟨j+1,by omega,by go_num,_,⟨{ o with ad:=a0,cap:=Y },wJ (cc:=kd'.cc) (x:=P0 o.cb) ?_ (ab ⟨a4,rfl,rfl⟩) (aM.kept a1) (aA.kept a1),B.qo HQ.1 y,aN.gR a1,aR,HQ.2.2.2.2⟩,aP⟩;rw[aO.out,<-a7.1,<-a7.2,pT]
     case measure=>simp[intOf];omega
   have a9:¬((j:Int)<u):=by omega
   have HJ:Hid (u-j=0):=by show _=_;omega
   go_wp2_with fail
   go_end0;obtain⟨hH,hO,hG,hU,a3⟩:=HQ;rw[HJ.out]at hU;exact⟨rfl,by rw[<-hU];exact⟨o,HS,hH,hO,hG,a3⟩⟩
def kK(f:Fb)(M:Nat->List B.V)(x y:B.V):Prop:=x.1≠0/\f.k x.1=0/\y.1=0/\0<=y.2/\y.2<((M x.1).length:Int)
def gI(f:Fb)(x y:B.V):Nat:=if x.1=0\/f.k x.1≠0 then 2 else if y.1≠0 then 1 else 3
theorem sv(f:Fb)(x y:B.V):1<=gI f x y/\gI f x y<=3:=by unfold gI;split;omega;split<;>omega
def FM(f:Fb)(M:Nat->List B.V)(x y:B.V)(v:Value):Prop:=
 (kK f M x y/\v=.tuple #[.int .i64 y.2,.int .i64 0])\/(¬kK f M x y/\v=.tuple #[.int .i64 0,.int .i64 (gI f x y)])
theorem wN(op a b c fb tb eb sb pb n:Nat)(x y:B.V)(kd:B.Kd)(vb:Vs)(M:Nat->List B.V)(w:World)(hS:jm w sb pb eb n kd vb M)(hn:n<=200)(hx:B.qO kd.on n x)(aE:w.cell? ⟨eb,27,none⟩=some (P0 sb))(le:eb<w.heap.size): Calls prog 158 #[dZ op a b c fb tb eb,vA x,vA y] w λe w'=>∃v,e=.returned v/\w.grownBy w' none/\FM vb.f M x y v:=by
 have KS:=az hS;have HX:=az hx;obtain⟨u,G⟩:=y;have a2:x.1≠0->(M x.1).length<=8:=λh0=>by
  rcases hx with h|h
  .exact ch h h0
  exact hS.p.l _ h.2.2.1
 clear hS hx;go_in;go_wp2_with fail
 generalize hW:((w.alloc (.cells #[.int .u8 (op:Int),.int .u8 (a:Int),.int .u8 (b:Int),.int .u8 (c:Int),P0 fb,P0 tb,P0 eb] 186)).alloc (.cells #[.int .i64 (x.1:Int),.int .i64 x.2] 149)).alloc (.cells #[.int .i64 (u:Int),.int .i64 G] 149)=w1;have a0:Hid (w.grownBy w1 none):=by rw[<-hW];exact au (au (ah _ _ _) _) _
 have a1:w1.heap[w.heap.size]? = some (lZ op a b c fb tb eb):=by rw[<-hW,ak _ _ _ (by simp;omega),ak _ _ _ (by simp)];exact bf w _
 have Y:w1.heap[w.heap.size+1]? = some (.cells #[.int .i64 (x.1:Int),.int .i64 x.2] 149 (0,0)):=by
  rw[<-hW,ak _ _ _ (by simp)];have:=bf (w.alloc (.cells #[.int .u8 (op:Int),.int .u8 (a:Int),.int .u8 (b:Int),.int .u8 (c:Int),P0 fb,P0 tb,P0 eb] 186)) (.cells #[.int .i64 (x.1:Int),.int .i64 x.2] 149);simpa using this
 have o:w1.heap[w.heap.size+1+1]? = some (.cells #[.int .i64 (u:Int),.int .i64 G] 149 (0,0)):=by
  rw[<-hW];have:=bf ((w.alloc (.cells #[.int .u8 (op:Int),.int .u8 (a:Int),.int .u8 (b:Int),.int .u8 (c:Int),P0 fb,P0 tb,P0 eb] 186)).alloc (.cells #[.int .i64 (x.1:Int),.int .i64 x.2] 149)) (.cells #[.int .i64 (u:Int),.int .i64 G] 149);simpa using this
 clear hW;have H3:=az o;have x6:=(fk a1).2.2.2.2.2.2;have c0:w1.cell? ⟨w.heap.size+1,0,none⟩=some (.int .i64 (x.1:Int)):=by simp[World.cell?,Y]
 have c1:w1.cell? ⟨w.heap.size+1,1,none⟩=some (.int .i64 x.2):=by simp[World.cell?,Y]
 obtain⟨a4,_⟩:=bh a0.out (a:=⟨eb,27,none⟩) le;rw[aE]at a4;have aB:=bz a1;have a9:=bz Y;have aM:=bz o;have aG:eb<w1.heap.size:=by omega
 clear a1 Y o;have HS:Hid (∀w':World,w1.grownBy w' none->w'.cell? ⟨w.heap.size,6,none⟩=some (P0 eb)/\w'.cell? ⟨eb,27,none⟩=some (P0 sb)/\w'.cell? ⟨w.heap.size+1,0,none⟩=some (.int .i64 (x.1:Int))/\w'.cell? ⟨w.heap.size+1,1,none⟩=some (.int .i64 x.2)):=
  λw' hg=>⟨(bh hg (a:=⟨w.heap.size,6,none⟩) aB).1.trans x6,(bh hg (a:=⟨eb,27,none⟩) aG).1.trans a4,(bh hg (a:=⟨w.heap.size+1,0,none⟩) a9).1.trans c0,(bh hg (a:=⟨w.heap.size+1,1,none⟩) a9).1.trans c1⟩
 go_region_held3 (λw'=>w'.cell? ⟨w.heap.size,6,none⟩=some (P0 eb)/\w'.cell? ⟨eb,27,none⟩=some (P0 sb)/\w'.cell? ⟨w.heap.size+1,0,none⟩=some (.int .i64 (x.1:Int))/\w'.cell? ⟨w.heap.size+1,1,none⟩=some (.int .i64 x.2)) (first|exact HS.out _ (bq (ax _ _))|exact HS.out _ a3.out) (first|(go_at_call 200;refine(AP sb pb eb n x kd vb M w1.drew (KS.out.kept (bq a0.out)) hn HX.out).mono ?_;rintro e w2 ⟨J,hc⟩;have a3:Hid (w1.grownBy w2 none):=⟨J.os,J.tape,J.output,J.size,J.block⟩;obtain⟨n2,ob,rfl,a7⟩:∃(n2:Int) (ob:Bool),e=.returned (.tuple #[.int .i64 n2,.bool ob])/\(((x.1=0\/vb.f.k x.1≠0)/\ob=false)\/((x.1≠0/\vb.f.k x.1=0)/\ob=true/\n2=((M x.1).length:Int))):=(by unfold nA at hc;split at hc;exact⟨_,_,hc,ag ⟨(by assumption),rfl⟩⟩;exact⟨_,_,hc,ab ⟨⟨λh=>(by rename_i hh;exact hh (ag h)),(by rename_i hh;exact Classical.byContradiction λh=>hh (ab h))⟩,rfl,rfl⟩⟩);have aC:=az a7;clear hc a7 J))
 all_goals
  have o:=dp a3.out H3.out;have e0:w2.cell? ⟨w.heap.size+1+1,0,none⟩=some (.int .i64 (u:Int)):=by simp[World.cell?,o]
  have e1:w2.cell? ⟨w.heap.size+1+1,1,none⟩=some (.int .i64 G):=by simp[World.cell?,o]
  have a6:=az (an a0.out a3.out);clear o x6 c0 c1 a4;rcases aC.out with⟨h1,rfl⟩|⟨h1,rfl,rfl⟩
  .have H:=az (show ¬kK vb.f M x (u,G)/\gI vb.f x (u,G)=2 from⟨λh=>h1.elim h.1 (λg=>g h.2.1),by unfold gI;rw[aj h1]⟩);clear h1 a2;go_wp2_with fail
   go_ret2
   exact⟨_,rfl,a6.out,ab ⟨H.out.1,by rw[H.out.2];rfl⟩⟩
  have hl:=a2 h1.1;have H1:=az h1;clear a2 h1;go_wp2_with fail
  refine(ft (u,G) _).mono ?_;rintro e w3 ⟨rfl,a5⟩;have Z:=az (an a6.out a5);clear a5 e0 e1;generalize aA:(M x.1).length=ln at *;have a8:=az aA;clear aA;by_cases W:u=0
  .have hd:decide (u=0)=true:=by simpa using W
   simp only[hd];by_cases h0:G<0
   .have H:=az (show ¬kK vb.f M x (u,G)/\gI vb.f x (u,G)=3 from⟨λh=>by have:(0:Int)<=G:=h.2.2.2.1;omega,by unfold gI;rw[aa (λg=>g.elim H1.out.1 (λg=>g H1.out.2)),aa (λg=>g W)]⟩)
    clear W hd;go_wp2_with fail
    go_ret2
    exact⟨_,rfl,Z.out,ab ⟨H.out.1,by rw[H.out.2];rfl⟩⟩
   obtain⟨i,hi⟩:∃i:Nat,G=i:=⟨G.toNat,by omega⟩;subst hi;by_cases aJ:i<ln
   .have H:=az (show kK vb.f M x (u,(i:Int)) from⟨H1.out.1,H1.out.2,W,by show(0:Int)<=(i:Int);omega,by show(i:Int)<_;rw[a8.out];omega⟩)
    have aF:decide ((i:Int)<0)=false:=by simp
    clear W hd h0;go_wp2_with fail
    go_ret2
    exact⟨_,rfl,Z.out,ag ⟨H.out,rfl⟩⟩
   have H:=az (show ¬kK vb.f M x (u,(i:Int))/\gI vb.f x (u,(i:Int))=3 from⟨λh=>by have:(i:Int)<_:=h.2.2.2.2;rw[a8.out]at this;omega,by unfold gI;rw[aa (λg=>g.elim H1.out.1 (λg=>g H1.out.2)),aa (λg=>g W)]⟩)
   have aF:decide ((i:Int)<0)=false:=by simp
   have aH:(ln:Int)<=(i:Int):=by omega
   clear W hd h0;go_wp2_with fail
   go_ret2
   exact⟨_,rfl,Z.out,ab ⟨H.out.1,by rw[H.out.2];rfl⟩⟩
  have hd:decide (u=0)=false:=by simpa using W
  simp only[hd];have H:=az (show ¬kK vb.f M x (u,G)/\gI vb.f x (u,G)=1 from⟨λh=>W h.2.2.1,by unfold gI;rw[aa (λg=>g.elim H1.out.1 (λg=>g H1.out.2)),aj W]⟩);clear W hd;go_wp2_with fail
  go_ret2
  exact⟨_,rfl,Z.out,ab ⟨H.out.1,by rw[H.out.2];rfl⟩⟩
end F
section
theorem IG(op a b c fb tb eb sx cb L nx rb nr:Nat)(back:Value)(Q:Nat->B.V)(v:B.V)(R:World->Prop)(w:World)(hx:w.heap[sx]? = some (lZ op a b c fb tb eb))(hf:w.heap[fb]? = some (ij cb L nx rb nr back))(hr:Full w rb 149 (nr*2) (nr*2) (eC Q))(ha:a<nr)(le:eb<w.heap.size)(H:∀w1,w.grownBy w1 (some rb)->Full w1 rb 149 (nr*2) (nr*2) (eC (B.set Q a v))->Calls prog 110 #[Pt eb 32,P0 tb] w1 λe w2=>e=.returned (.tuple #[])/\R w2): Calls prog 207 #[vA v,P0 sx] w λe w'=>e=.returned (.tuple #[])/\R w':=by
 obtain⟨x0,x1,x2,x3,x4,x5,x6⟩:=fk hx;have lx:=bz hx
 have a0:sx≠rb:=by
  rintro rfl;obtain⟨cu,q,_⟩:=hr;have J:w.heap[sx]? = some (.cells #[.int .u8 (op:Int),.int .u8 (a:Int),.int .u8 (b:Int),.int .u8 (c:Int),P0 fb,P0 tb,P0 eb] 186 (0,0)):=hx;rw[q]at J;injection J with q2;injection q2 with _ q2 _;exact ch q2 (by decide)
 have HH:=az H;have HX:=az hx;have HF:=az hf;have HR:=az hr;clear H hx hf hr;obtain⟨v1,v2⟩:=v;go_in;go_wp2_with fail
 generalize hW:w.alloc (.cells #[.int .i64 (v1:Int),.int .i64 v2] 149)=w1;have Z:Hid (w.grownBy w1 none):=by rw[<-hW];exact ah _ _ _
 refine(js op a b c fb tb eb cb L nx rb nr back Q (v1,v2) w1 (dp Z.out HF.out) (HR.out.block (Z.out.block rb HR.out.lt (by intro e;cases e))) ha).mono ?_;rintro e w2 ⟨rfl,G,o⟩;have hG:=an (mQ Z.out rb) G;have i:=cm hG HX.out (by intro e;injection e with e;exact a0 e);obtain⟨y0,y1,y2,y3,y4,y5,y6⟩:=fk i;have HJ:Hid (∀W,w2.grownBy W none->Calls prog 110 #[Pt eb 32,P0 tb] W λe w'=>e=.returned (.tuple #[])/\R w'):=λW u=>HH.out W (an hG (mQ u rb)) (o.block (u.block rb o.lt (by intro e;cases e)));clear G o hG i hW x0 x1 x2 x3 x4 x5 x6;go_wp2_with fail
 go_region_with (go_at_call 110;refine(HJ.out w2.drew (bq (ax _ _))).mono ?_;rintro e w4 ⟨rfl,y⟩;have a1:=az y;clear y)
 all_goals
  go_wp2_with fail
  go_end0;exact⟨rfl,a1.out⟩
