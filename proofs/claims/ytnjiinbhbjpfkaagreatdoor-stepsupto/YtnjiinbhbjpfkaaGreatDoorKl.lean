import Derived.Test.YtnjiinbhbjpfkaaGreatDoorKc
import Derived.Test.YtnjiinbhbjpfkaaGreatDoorKi
import Derived.Test.YtnjiinbhbjpfkaaGreatDoorKk
set_option maxRecDepth 100000
set_option maxHeartbeats 0
set_option linter.all false
namespace Go.Proofs.YtnjiinbhbjpfkaaGreatDoor
open Go.RowKit Go.Proofs.Tryz
namespace F
theorem GW{p:dz}{s:Pl}{g:eE}{w:World}(h:dQ p s g w)(hO:Ok p s): Calls prog 43 #[P0 p.eb] w λe w'=>e=.returned (.slice (some ⟨w.heap.size,0,none⟩) (s.q 2 0).length (s.q 2 0).length)/\w'.ownsRow w.heap.size 3 1 (.slice (some ⟨w.heap.size,0,none⟩) (s.q 2 0).length (s.q 2 0).length) (s.q 2 0).length ((s.q 2 0).map (λt:Nat=>Value.int .i64 (t:Int)))/\w.grownBy w' none:=by
 have hl:fz s 2 0:=ag ⟨rfl,rfl⟩;have a2:=hO.lw.len hl;have i:=λu y=>(hO.lw.b 2 0 hl u y).1;obtain⟨Y,W⟩:∃Y:Nat->Int,∀u,fe s u->Y (g.tb u)=(u:Int):=by
  classical
  refine⟨λb=>if H:∃u,fe s u/\g.tb u=b then(H.choose:Int) else 0,λu y=>?_⟩;have H:∃u',fe s u'/\g.tb u'=g.tb u:=⟨u,y,rfl⟩;show(if H:∃u',fe s u'/\g.tb u'=g.tb u then(H.choose:Int) else 0)=(u:Int);rw[dif_pos H,h.ny H.choose_spec.1 y H.choose_spec.2]
 have hL:=h.ln hl (by omega);have a0:w.cell? ⟨p.eb,32,none⟩=some (.slice (g.ro 2 0).1 (s.q 2 0).length (g.ro 2 0).2):=by
  have:=hL.hE.cell _ hL.ho;rw[hL.e]at this;exact this
 obtain⟨G,J⟩:∃G,s.q 2 0≠[]->(g.ro 2 0).1=some ⟨G,0,none⟩/\G<w.heap.size/\∀j x,((s.q 2 0).map g.tb)[j]? = some x->w.cell? ⟨G,j,none⟩=some (P0 x):=by
  by_cases e:s.q 2 0=[]
  .exact⟨0,λh=>ch e h⟩
  have hr:=hL.row;obtain⟨G,lc,he⟩:=dM hr (by exact λe'=>e (cf.1 e'));rw[he]at hr;injection he with a1 _ _;exact⟨G,λ_=>⟨a1,(dA hr G rfl).2.1,λj x o=>(iG hr).2.2.2.2.2 j (P0 x) (by rw[eo,o];rfl)⟩⟩
 have Z:∀{j:Nat} {x:Nat},((s.q 2 0).map g.tb)[j]? = some x->s.q 2 0≠[]:=λo e=>by rw[e]at o;simp at o
 refine(GX p.eb G (g.ro 2 0).2 (s.q 2 0).length (g.ro 2 0).1 Y ((s.q 2 0).map g.tb) w a0 h.E.lt (by rw[dS]) (by omega) (λj x o=>⟨(J (Z o)).1,(J (Z o)).2.2 j x o⟩) (λe=>(J (λe'=>e (by rw[e'];rfl))).2.1) (λx o=>?_)).mono ?_
 .obtain⟨u,y,rfl⟩:=ek.1 o;have hT:=h.tk (i u y);refine⟨?_,hT.lt⟩;rw[hT.cell 0 (by omega),W u (i u y)];rfl
 rintro e w' ⟨rfl,k1,k2⟩;refine⟨rfl,?_,k2⟩;have:((s.q 2 0).map g.tb).map (λx=>Value.int .i64 (Y x))=(s.q 2 0).map (λt:Nat=>Value.int .i64 (t:Int)):=by
  rw[List.map_map];refine List.map_congr_left (λu y=>?_);show Value.int .i64 (Y (g.tb u))=_;rw[W u (i u y)]
 rw[this]at k1;exact k1
theorem tN.queue{p:dz}{s:Pl}{g:eE}{mb:Nat}{w:World}(h:tN p s g mb w): Calls prog 26 #[P0 mb] w λe w'=>e=.returned (.slice (some ⟨w.heap.size,0,none⟩) (s.q 2 0).length (s.q 2 0).length)/\w'.ownsRow w.heap.size 3 1 (.slice (some ⟨w.heap.size,0,none⟩) (s.q 2 0).length (s.q 2 0).length) (s.q 2 0).length ((s.q 2 0).map (λt:Nat=>Value.int .i64 (t:Int)))/\zh p s g mb w s g w':=by
 obtain⟨c0,H,Y,G⟩:=h.cells;have i:(w.setCell ⟨mb,0,none⟩ (.int .i32 1)).heap.size=w.heap.size:=by simp[World.setCell]
 refine(yD mb p.eb w c0 H Y (λv w'=>v=.slice (some ⟨w.heap.size,0,none⟩) (s.q 2 0).length (s.q 2 0).length/\w'.ownsRow w.heap.size 3 1 (.slice (some ⟨w.heap.size,0,none⟩) (s.q 2 0).length (s.q 2 0).length) (s.q 2 0).length ((s.q 2 0).map (λt:Nat=>Value.int .i64 (t:Int)))/\(w.setCell ⟨mb,0,none⟩ (.int .i32 1)).grownBy w' none) ?_).mono ?_
 .have:=GW h.lock h.ok;rw[i]at this;refine this.mono ?_;rintro e w' ⟨rfl,k1,k2⟩;have y:=k2.block mb (by rw[i];exact G) (by intro e;cases e);obtain⟨W,J,_⟩:=h.qD y;exact⟨_,_,_,rfl,W,J,rfl,k1,k2⟩
 rintro e w' ⟨v,w1,rfl,⟨rfl,k1,k2⟩,rfl⟩;have y:=k2.block mb (by rw[i];exact G) (by intro e;cases e);obtain⟨_,_,Z⟩:=h.qD y;refine⟨rfl,dD k1 (λk o=>af _ _ _ _ ?_),⟨(h.lock.kept k2).off h.nm 0 _,h.ok,h.ev,Z,h.nm⟩,bm ((bm (S:=λk=>ey p s g k\/k=mb) (dk _ _) (ag (ab rfl)) _).gR k2) (ag (ab rfl)) _,λk o=>ag o⟩;have e:w.heap.size=k:=by injection o
 show k≠mb;omega
theorem G8{p:dz}{k:Nat}(h:ey p lU Ed k):k=p.eb\/k=p.sb\/k=p.pb\/p.fx k:=by
 obtain⟨x,y,z,o⟩:=h;by_cases i:gu lU x y z=true
 .rw[gH i]at o;have J:=uM i;by_cases G:eQ x
  .rw[gk G]at o
   cases o
  have H:x=0\/x=1\/x=11\/x=13\/x=14\/x=15\/x=16\/x=17\/x=18:=by unfold eQ at G;omega
  rcases H with rfl|rfl|rfl|rfl|rfl|rfl|rfl|rfl|rfl
  .exact ag o
  .rcases o with e|e|⟨_,_,_,e,_⟩|⟨e,_⟩
   .exact ab (ag e)
   .exact ab (ab (ag e))
   .cases e
   cases e
  .have:=(jq i (by omega)).1;have e:=this.1;have u:y<=0:=this.2;omega
  .have:=(lI i (by omega)).1;have e:=this.1;have u:y<=0:=this.2;omega
  .have:=(lI i (by omega)).1;have e:=this.1;have u:y<=0:=this.2;omega
  .have:=(jq i (by omega)).1;have e:=this.1;have u:y<=0:=this.2;omega
  .have:=(jq i (by omega)).1;have e:=this.1;have u:y<=0:=this.2;omega
  .have:=(ld i).1;have e:=this.1;have u:y<=0:=this.2;omega
  exact ab (ab (ab o))
 rw[vq i]at o;exact o.elim
structure tK(p:dz) (tx:ByteArray) (c0 c1 c2 c3:Int):Prop where
 n:(p.n:Int)=c0
 qn:(p.qn:Int)=c1
 wk:(p.wk:Int)=c2
 mt:(p.mt:Int)=c3
 nf:p.nf=M.bt tx 0
 rg:∀k,p.rg k=M.bt tx (M.pos tx k)
 len:∀k,p.len k=M.bt tx (M.pos tx k+1)
 ins:∀k i,p.ins k i=pH tx (M.pos tx k+2+4*i)
def Gk(tx:ByteArray)(c0 c1 c2 c3:Int)(z eb:Nat)(w3:World):Prop:=∃p s g,p.eb=eb/\J3 p/\dQ p s g w3/\Ok p s/\s=lU.born 0 (0,0) (0,0)/\tK p tx c0 c1 c2 c3/\∀k,ey p s g k->z<=k/\k<w3.heap.size
theorem Ha(s:ByteArray)(c0 c1 Y c3:Int)(w:World)(hs:s.size<=maxLen)(hT:mB w)(aF:(M.jO s).2=true->Tm s): Calls prog 23 #[.string s,.agg #[.int .i64 c0,.int .i64 c1,.int .i64 Y,.int .i64 c3]] w λe w'=>Below w.heap.size w w'/\((∃x y:Int,e=.returned (.tuple #[.pointer none,.agg #[.int .i64 x,.int .i64 y]])/\¬(qT c0 c1 Y c3=true/\(M.jO s).2=true))\/∃(mb:Nat) (p:dz) (g:eE),e=.returned (.tuple #[P0 mb,.agg #[.int .i64 0,.int .i64 0]])/\J3 p/\tN p (lU.born 0 (0,0) (0,0)) g mb w'/\tK p s c0 c1 Y c3/\∀k,ey p (lU.born 0 (0,0) (0,0)) g k\/k=mb->w.heap.size<=k/\k<w'.heap.size):=by
 refine(ux s c0 c1 Y c3 w hs hT (Gk s c0 c1 Y c3 (w.heap.size+2)) ?_).mono ?_
 .intro aD W w1 w2 g cl aG z1 B2 z2 hF;obtain⟨n1,n2,aH⟩:=nJ W;have hb:1<=c0/\c0<=200/\1<=c1/\c1<=50/\1<=Y/\Y<=50/\1<=c3/\c3<=16:=by
   simp[qT,tR]at aD;omega
  obtain⟨q,rfl⟩:∃q:Nat,c1=(q:Int):=⟨c1.toNat,by omega⟩;obtain⟨wk,rfl⟩:∃wk:Nat,Y=(wk:Int):=⟨Y.toNat,by omega⟩;obtain⟨t,rfl⟩:∃t:Nat,c3=(t:Int):=⟨c3.toNat,by omega⟩;obtain⟨hz,gs,hG,aC⟩:=hF;refine Fp g (M.bt s 0) q wk t cl (Gk s _ _ _ _ (w.heap.size+2)) w2 (by omega) (by omega) ?_;rintro w7 eb sb pb ac ⟨y1,y2,y3,y4,B7,hA,hS,hE⟩;have a1:=λk u=>B7.block k u;have pre:zg w7 s eb sb pb ac g cl q wk t gs:=⟨W,aF W,by omega,by omega,hG.block (a1 g hG.lt),λk u=>by
   obtain⟨_,a2,a3,a4,a5,a6⟩:=aC k u;exact⟨a2,a3,a4,a5,a6.block (a1 _ a6.lt)⟩,hA,Es hS,hE⟩
  have a0:=pre.rep;have J:∀k,ey (qe w7 s eb sb pb ac g cl q wk t gs) lU Ed k->(w2.heap.size<=k\/(qe w7 s eb sb pb ac g cl q wk t gs).fx k)/\w.heap.size+2<=k:=λk u=>by
   rcases G8 u with G|G|G|G
   .have G:k=eb:=G;exact⟨ag (by omega),by omega⟩
   .have G:k=sb:=G;exact⟨ag (by omega),by omega⟩
   .have G:k=pb:=G;exact⟨ag (by omega),by omega⟩
   refine⟨ab G,?_⟩;rcases G with h2|⟨f,hf,h2⟩|h2
   .omega
   .have:=(aC f hf).1;omega
   omega
  have H:=Je (qe w7 s eb sb pb ac g cl q wk t gs);have aB:(0:Nat)<(qe w7 s eb sb pb ac g cl q wk t gs).nf:=n1;refine(Ik (f:=0) (0,0) (0,0) a0 pre.pw H.lw H.nd H.lt H.ol aB (by show 0+1<=_;omega)).mono ?_;rintro e w' ⟨rfl,g',Z,_⟩;refine⟨⟨_,rfl⟩,Z.below a0 (λk u=>(J k u).1) B7.size,qe w7 s eb sb pb ac g cl q wk t gs,lU.born 0 (0,0) (0,0),g',rfl,⟨pre.pw,pre.pi,by show q<=50;omega,by show wk<=50;omega⟩,Z.r,H.born (by show 0+1<=_;omega) aB (dN.num 0) (dN.num 0),rfl,⟨aG.symm,rfl,rfl,rfl,rfl,λ_=>rfl,λ_=>rfl,λ_ _=>rfl⟩,λk u=>⟨?_,Z.r.lt u⟩⟩;rcases Z.m k u with G|G
  .exact(J k G).2
  have:=B7.size;omega
 rintro e w' ⟨hB,⟨x,y,G,h2,_⟩|⟨mb,eb,w3,rfl,⟨p,st,g,rfl,hP,hR,hO,rfl,a8,hM⟩,aI,rfl,aA,a7⟩⟩
 .exact⟨hB,ag ⟨x,y,G,h2⟩⟩
 have a9:dQ p (lU.born 0 (0,0) (0,0)) g w':=⟨λx y z=>(ob p (lU.born 0 (0,0) (0,0)) g x y z).fr w3 w' (hR.o x y z) (λk u=>a7 k (hR.lt ⟨x,y,z,u⟩) (by have:=(hM k ⟨x,y,z,u⟩).1;omega)),hR.i⟩
 refine⟨hB,ab ⟨w3.heap.size,p,g,rfl,hP,⟨a9,hO,(Ap lU 0 (0,0) (0,0)).2.1,aA,λu=>by have:=(hM _ u).2;omega⟩,a8,?_⟩⟩;rintro k (u|rfl)
 .exact⟨by have:=(hM k u).1;omega,a9.lt u⟩
 obtain⟨x,hx⟩:=aA;exact⟨by omega,bz hx⟩
theorem xU(mb eb:Nat)(w:World)(y:w.cell? ⟨mb,0,none⟩=some (.int .i32 0))(o:w.frozen? ⟨mb,0,none⟩=false)(H:w.cell? ⟨mb,2,none⟩=some (P0 eb))(R:Int->World->Prop)(i:Hid (Calls prog 44 #[P0 eb] (w.setCell ⟨mb,0,none⟩ (.int .i32 1)) λe w'=>∃x:Int,e=.returned (.int .i64 x)/\w'.cell? ⟨mb,0,none⟩=some (.int .i32 1)/\w'.frozen? ⟨mb,0,none⟩=false/\R x w')): Calls prog 28 #[P0 mb] w λe w'=>∃x w1,e=.returned (.int .i64 x)/\R x w1/\w'=w1.setCell ⟨mb,0,none⟩ (.int .i32 0):=by
 go_enter_defers func28,ntmps28
 go_wp2_with fail
 refine(pC mb w y o).mono ?_;rintro e w1 ⟨rfl,rfl⟩;go_wp2_with fail
 refine i.out.mono ?_;rintro e w2 ⟨x,rfl,c0,c1,hR⟩;have u:Hid (R x w2):=hR;go_wp2_with fail
 refine leaves_cons (f:=40) (args:=#[P0 mb]) (by simp) (by simp[go_sem]) ?_;refine(ja ⟨mb,0,none⟩ .returning _ c0 c1).mono ?_;rintro e G w'' ⟨rfl,rfl,rfl⟩;exact⟨_,results_tmp rfl _ _ _,x,w2,rfl,u.out,rfl⟩
theorem Ib(eb:Nat)(x:Int)(w:World)(h:w.cell? ⟨eb,28,none⟩=some (.int .i64 x)):Calls prog 44 #[P0 eb] w λe w'=>e=.returned (.int .i64 x)/\w'=w:=by
 go_in;go_wp2_with fail
 go_ret;exact⟨rfl,rfl⟩
theorem tN.clock{p:dz}{s:Pl}{g:eE}{mb:Nat}{w:World}(h:tN p s g mb w): Calls prog 28 #[P0 mb] w λe w'=>e=.returned (.int .i64 s.eY)/\zh p s g mb w s g w':=by
 obtain⟨c0,u,J,W⟩:=h.cells;refine(xU mb p.eb w c0 u J (λx w'=>x=s.eY/\w'=w.setCell ⟨mb,0,none⟩ (.int .i32 1)) ?_).mono ?_
 .refine(Ib p.eb s.eY _ (h.lock.E.cell 28 (by omega))).mono ?_;rintro e w' ⟨rfl,rfl⟩;obtain⟨G,y,_⟩:=h.qD rfl;exact⟨s.eY,rfl,G,y,rfl,rfl⟩
 rintro e w' ⟨x,w1,rfl,⟨rfl,rfl⟩,rfl⟩;obtain⟨_,_,H⟩:=h.qD rfl;exact⟨rfl,⟨h.lock.off h.nm 0 _,h.ok,h.ev,H,h.nm⟩,bm (bm (S:=λk=>ey p s g k\/k=mb) (dk _ _) (ag (ab rfl)) _) (ag (ab rfl)) _,λk o=>ag o⟩
theorem GG{s:Pl}{x:Int}(h:J0 s.sp s.lv.length (s.q 2 0).length (s.q 3 0).length (λk=>(s.q 4 k).length) x):x=s.zp:=by
 obtain⟨Z,h2,h3,h4,h5⟩:=h;have W:((s.q 3 0).length≠0\/∃k,k<4/\(s.q 4 k).length≠0)↔yz s:=by
  have Y:∀l:List Nat,l.length≠0↔l≠[]:=λl=>not_congr cf;unfold yz;rw[Y];exact or_congr Iff.rfl (exists_congr (λk=>and_congr Iff.rfl (Y _)))
 unfold Pl.zp;by_cases J:s.sp=true
 .rw[aj J];exact Z J
 have i:s.sp=false:=by simpa using J
 rw[aa J];by_cases H:s.lv=[]
 .rw[aj H];exact h2 i (by rw[H];rfl)
 rw[aa H];have o:s.lv.length≠0:=λe=>H (cf.1 e);by_cases G:s.q 2 0=[]
 .have u:(s.q 2 0).length=0:=by rw[G];rfl
  rw[aa (λe=>e G)];by_cases y:yz s
  .rw[aj y];exact h4 i o u (W.2 y)
  rw[aa y];exact h5 i o u (λe=>y (W.1 e))
 rw[aj G];exact h3 i o (λe=>G (cf.1 e))
theorem yq{p:dz}{s:Pl}{g:eE}{w:World}(h:dQ p s g w): Calls prog 42 #[P0 p.eb] w λe w'=>e=.returned (.int .i64 s.zp)/\w.grownBy w' none:=by
 refine(Et p.eb s.sp (λk=>(s.q 4 k).length) s.lv.length (g.ro 6 0).2 (eH s 2 0) (g.ro 2 0).2 (eH s 3 0) (g.ro 3 0).2 (g.ro 6 0).1 (g.ro 2 0).1 (g.ro 3 0).1 w (h.E.cell 42 (by omega)) (h.E.cell 29 (by omega)) (h.E.cell 32 (by omega)) (h.E.cell 33 (by omega)) ⟨h.E.lt,λj y=>?_⟩).mono ?_
 .have i:j=0\/j=1\/j=2\/j=3:=by omega
  rcases i with rfl|rfl|rfl|rfl
  .exact⟨⟨_,_,_,h.E.cell 34 (by omega)⟩,_,_,h.E.cell 35 (by omega)⟩
  .exact⟨⟨_,_,_,h.E.cell 36 (by omega)⟩,_,_,h.E.cell 37 (by omega)⟩
  .exact⟨⟨_,_,_,h.E.cell 38 (by omega)⟩,_,_,h.E.cell 39 (by omega)⟩
  exact⟨⟨_,_,_,h.E.cell 40 (by omega)⟩,_,_,h.E.cell 41 (by omega)⟩
 rintro e w' ⟨⟨x,rfl,o⟩,u⟩;rw[GG o];exact⟨rfl,u⟩
theorem tN.yq{p:dz}{s:Pl}{g:eE}{mb:Nat}{w:World}(h:tN p s g mb w): Calls prog 25 #[P0 mb] w λe w'=>e=.returned (.int .i64 s.zp)/\zh p s g mb w s g w':=by
 obtain⟨c0,H,Z,y⟩:=h.cells;have i:(w.setCell ⟨mb,0,none⟩ (.int .i32 1)).heap.size=w.heap.size:=by simp[World.setCell]
 refine(wM mb p.eb w c0 H Z (λx w'=>x=s.zp/\(w.setCell ⟨mb,0,none⟩ (.int .i32 1)).grownBy w' none) ?_).mono ?_
 .refine(F.yq h.lock).mono ?_;rintro e w' ⟨rfl,k2⟩;have u:=k2.block mb (by rw[i];exact y) (by intro e;cases e);obtain⟨W,J,_⟩:=h.qD u;exact⟨_,rfl,W,J,rfl,k2⟩
 rintro e w' ⟨x,w1,rfl,⟨k1,k2⟩,rfl⟩;have u:=k2.block mb (by rw[i];exact y) (by intro e;cases e);obtain⟨_,_,Y⟩:=h.qD u;rw[k1];exact⟨rfl,⟨(h.lock.kept k2).off h.nm 0 _,h.ok,h.ev,Y,h.nm⟩,bm ((bm (S:=λk=>ey p s g k\/k=mb) (dk _ _) (ag (ab rfl)) _).gR k2) (ag (ab rfl)) _,λk G=>ag G⟩
theorem Jo(s:Pl)(t i:Nat)(f:gY):((s.dx t i f).T t).fr=(s.T t).fr.set i f:=by unfold Pl.dx;rw[df]
structure Kn(s:Pl) (j:Nat) (f:gY) (ev:List se):Prop where
 fr:(s.T 1).fr=[f]
 ff:f.f=0
 nx:f.nx=j
 ev:s.ev=ev
 q2:s.q 2 0=[]
 q3:s.q 3 0=[]
 lv:s.lv=[1]
 sp:s.sp=false
 nt:s.nt=1
 wh:(s.T 1).wh=none
 run:(s.T 1).run=true
theorem Kn.top{s:Pl}{j:Nat}{f:gY}{ev:List se}(h:Kn s j f ev):cr s 1=0/\bw s 1=f:=by
 have e:cr s 1=0:=by unfold cr;rw[h.fr];rfl
 refine⟨e,?_⟩;show de s 1 (cr s 1)=f;rw[e];unfold de;rw[h.fr];rfl
theorem Kn.set{s:Pl}{j i:Nat}{f e:gY}{ev:List se}(h:Kn s j f ev)(o:e.f=0)(hn:e.nx=i):Kn (s.dx 1 (cr s 1) e) i e ev:=by
 obtain⟨G,H⟩:=h.top;obtain⟨y,_,u,_⟩:=gj s 1 (cr s 1) 1 e;exact⟨by rw[Jo,h.fr,G];rfl,o,hn,h.ev,h.q2,h.q3,h.lv,h.sp,h.nt,y.trans h.wh,u.trans h.run⟩
theorem Kn.fD{s:Pl}{j:Nat}{f:gY}{ev:List se}(h:Kn s j f ev):Kn (s.fD 1) (j+1) { f with nx:=f.nx+1 } ev:=by
 have e:s.fD 1=s.dx 1 (cr s 1) { f with nx:=f.nx+1 }:=by unfold Pl.fD;rw[h.top.2]
 rw[e];exact h.set h.ff (by show f.nx+1=_;rw[h.nx])
theorem Fq{p:dz}{s:Pl}{k:Nat}(i:0<k)(h:(bw s 1).nx≠p.len (bw s 1).f):s.ends p 1 k=s:=by
 cases k with
 | zero=>omega
 | succ k=>unfold Pl.ends;rw[aa (λe=>h e.2)]
theorem Kn.step{p:dz}{s s':Pl}{j:Nat}{f:gY}{ev:List se}{k:yi}(h:Kn s j f ev)(y:p.len 0=3)(G:j<3)(hi:p.ins 0 j=k)(e:iC p 1 s s'):∃why s3,jD p (s.fD 1) 1 k why s3/\s'=if why=0 then s3 else s3.leave 1 (0,-why) 3 why:=by
 obtain⟨H,o⟩:=h.top;unfold iC at e;rw[Fq (by omega) (by rw[o,h.nx,h.ff,y];omega),aj h.run]at e;obtain⟨why,s3,i,u⟩:=e;rw[o,h.ff,h.nx,hi]at i;exact⟨why,s3,i,u⟩
theorem Hj{p:dz}{s s':Pl}{f:gY}{ev:List se}(h:Kn s 0 f ev)(J:p.len 0=3)(hi:p.ins 0 0=(0,0,0,5))(H:iC p 1 s s'):∃o,Kn s' 1 o ev/\o.R 0=(0,5):=by
 obtain⟨why,s3,G,u⟩:=h.step J (by omega) hi H;obtain⟨W,y⟩:why=0/\s3=oO (s.fD 1) 1 0 (B.wide 0 5):=G;subst W;rw[aj rfl,y]at u;subst u;have e:=h.fD;obtain⟨Y,i⟩:=e.top;refine⟨(bw (s.fD 1) 1).set 0 (0,B.wide 0 5),e.set ?_ ?_,?_⟩
 .rw[i];exact h.ff
 .rw[i];exact e.nx
 show B.set (bw (s.fD 1) 1).R 0 (0,B.wide 0 5) 0=_;rw[B.ie];rfl
theorem EX{p:dz}{s s':Pl}{f:gY}{ev:List se}(h:Kn s 1 f ev)(u:f.R 0=(0,5))(Y:p.len 0=3)(hi:p.ins 0 1=(20,0,0,0))(J:iC p 1 s s'):∃y,Kn s' 2 y (ev++[(1,1,5)])/\y.R 0=(0,5):=by
 obtain⟨why,s3,H,G⟩:=h.step Y (by omega) hi J;have e:=h.fD;obtain⟨Z,W⟩:=e.top;have hR:(bw (s.fD 1) 1).R 0=(0,5):=by rw[W];exact u
 obtain⟨o,i⟩:why=(iY (s.fD 1) 1 0).1/\s3=(iY (s.fD 1) 1 0).2:=H;unfold iY at o i;rw[hR]at o i;simp only[if_true]at o i;subst o;rw[aj rfl,i]at G;subst G;exact⟨_,⟨e.fr,e.ff,e.nx,by show(s.fD 1).ev++_=_;rw[e.ev],e.q2,e.q3,e.lv,e.sp,e.nt,e.wh,e.run⟩,u⟩
theorem Hh{p:dz}{s s':Pl}{f:gY}{ev:List se}(hR:Rn p s 1)(h:Kn s 2 f ev)(W:f.R 0=(0,5))(G:p.len 0=3)(hi:p.ins 0 2=(14,0,0,0))(Y:iC p 1 s s'):(s'.T 1).run=false/\s'.ev=ev++[(2,1,5)]:=by
 obtain⟨why,s3,J,u⟩:=h.step G (by omega) hi Y;have o:=h.fD;obtain⟨y,Z⟩:=o.top;have i:(bw (s.fD 1) 1).R 0=(0,5):=by rw[Z];exact W
 have e:=(mM hR (by rw[h.top.2,h.nx,h.ff,G];omega)).1;obtain⟨e1,H⟩:why=0/\s3=(s.fD 1).back 1 ((bw (s.fD 1) 1).R 0):=J;subst e1;rw[aj rfl,H,i]at u;subst u;refine⟨(mA e.ok.lw e.ht (0,5)).1 y,?_⟩;rw[((lG (s.fD 1) 1 (0,5)).1 y).2.1,o.ev]
theorem yK{p:dz}{t:Nat}{s s':Pl}(e:(s.T t).run=false):∀n,gg p t n s s'->s'=s
 | 0,h=>h
 | n+1,h=>by
  unfold gg at h;rw[aa (by rw[e];decide)]at h;exact h
structure Kb(s:Pl) (j:Nat) (f:gY):Prop where
 fr:(s.T 1).fr=[f]
 ff:f.f=0
 nx:f.nx=j
 ev:s.ev=[]
 q2:s.q 2 0=[1]
 q3:s.q 3 0=[]
 lv:s.lv=[1]
 sp:s.sp=false
 nt:s.nt=1
 wh:(s.T 1).wh=some (2,0)
theorem Kb.start{s:Pl}{j:Nat}{f:gY}(h:Kb s j f):Kn (s.start 1) j f []:=by
 have u:s.dw 1=(s.eZ 2 0 ((s.q 2 0).erase 1)).dv 1 (s.T 1).off:=by unfold Pl.dw;rw[h.wh]
 have i:(s.start 1).T 1={ (s.dw 1).T 1 with run:=true }:=df _ _ _;have o:(s.dw 1).T 1=(s.T 1).off:=by rw[u];exact df _ _ _
 have y:∀x,(s.start 1).q x 0=if x=2 then[] else s.q x 0:=λx=>by
  show(s.dw 1).q x 0=_;rw[u];show(if x=2/\0=0 then(s.q 2 0).erase 1 else s.q x 0)=_;by_cases e:x=2
  .rw[aj ⟨e,rfl⟩,aj e,h.q2];rfl
  rw[aa (λG=>e G.1),aa e]
 refine⟨by rw[i];show((s.dw 1).T 1).fr=_;rw[o];exact h.fr,h.ff,h.nx,(gz s 1).2.2.2.1.trans h.ev,by rw[y];rfl,by rw[y];exact h.q3,?_,?_,(fO s 1).trans h.nt,by rw[i];show((s.dw 1).T 1).wh=_;rw[o];rfl,by rw[i]⟩
 .show(s.dw 1).lv=_;rw[(gz s 1).1];exact h.lv
 show(s.dw 1).sp=_;rw[u];exact h.sp
theorem zZ{p:dz}{s s':Pl}{j:Nat}{f:gY}(h:Kb s j f)(o:p.qn=2)(ht:jh p s 0 [] s'):∃e,gg p 1 2 (s.start 1) e/\s'=(if(e.T 1).run=true then e.dV 2 0 1 else e).im p:=by
 have H:s.fF (B.iz s.eY 0)=s:=by
  have:B.iz s.eY 0=s.eY:=by unfold B.iz;simp
  rw[this];rfl
 unfold jh at ht;have y:(s.fF (B.iz s.eY 0)).eN []=s:=H;rw[y,aj ⟨by rw[h.lv];simp,h.sp⟩]at ht;obtain⟨s1,i,rfl⟩:=ht;have hw:s.gr (s.q 3 0)=s:=by rw[h.q3];rfl
 rw[hw]at i;unfold gO at i;rw[h.q2]at i;obtain⟨e,u,G⟩:=i;rw[o]at u;exact⟨e,u,by rw[G]⟩
theorem Hg{p:dz}{s s1 s2:Pl}{f:gY}(G:Ok p s1.lD)(h:Kb s 0 f)(hl:p.len 0=3)(a5:p.ins 0 0=(0,0,0,5))(a6:p.ins 0 1=(20,0,0,0))(a4:p.ins 0 2=(14,0,0,0))(H:p.qn=2)(ht:jh p s 0 [] s1)(y:jh p s1.lD 0 [] s2):s1.ev=[(1,1,5)]/\s2.ev=[(2,1,5)]:=by
 obtain⟨a,o,rfl⟩:=zZ h H ht;have K0:=h.start;unfold gg at o;rw[aj K0.run]at o;obtain⟨a1,g1,o⟩:=o;obtain⟨f1,K1,R1⟩:=Hj K0 hl a5 g1;unfold gg at o;rw[aj K1.run]at o;obtain⟨a2,g2,o⟩:=o;obtain⟨f2,i,R2⟩:=EX K1 R1 hl a6 g2;have e:a=a2:=o;subst e;rw[aj i.run]at G y ⊢;have ho:a.dw 1=a:=by unfold Pl.dw;rw[i.wh]
 have u:a.dV 2 0 1=(a.eZ 2 0 (a.q 2 0++[1])).dv 1 ((a.T 1).to 2 0):=by unfold Pl.dV;rw[ho]
 have Y:(a.dV 2 0 1).T 1=(a.T 1).to 2 0:=by rw[u];exact df _ _ _
 have hq:∀x,(a.dV 2 0 1).q x 0=if x=2 then[1] else a.q x 0:=λx=>by
  rw[u];show(if x=2/\0=0 then a.q 2 0++[1] else a.q x 0)=_;by_cases e:x=2
  .rw[aj ⟨e,rfl⟩,aj e,i.q2];rfl
  rw[aa (λe'=>e e'.1),aa e]
 have a3:((a.dV 2 0 1).im p).ev=[(1,1,5)]:=by
  show(a.dV 2 0 1).ev=_;rw[u];exact i.ev
 refine⟨a3,?_⟩;have B2:Kb ((a.dV 2 0 1).im p).lD 2 f2:=by
  refine⟨?_,i.ff,i.nx,rfl,?_,?_,?_,?_,?_,?_⟩
  .show((a.dV 2 0 1).T 1).fr=_;rw[Y];exact i.fr
  .show(a.dV 2 0 1).q 2 0=_;rw[hq];rfl
  .show(a.dV 2 0 1).q 3 0=_;rw[hq];exact i.q3
  .show(a.dV 2 0 1).lv=_;rw[u];exact i.lv
  .show(a.dV 2 0 1).sp=_;rw[u];exact i.sp
  .show(a.dV 2 0 1).nt=_;rw[u];exact i.nt
  show((a.dV 2 0 1).T 1).wh=_;rw[Y];rfl
 generalize ((a.dV 2 0 1).im p).lD=b at *;obtain⟨c,W,rfl⟩:=zZ B2 H y;have J:=B2.start
 have hS:Ok p (b.start 1):=G.start (by rw[B2.lv];simp);have Z:Rn p (b.start 1) 1:=⟨hS,(hS.rn 1 ⟨bj _,by rw[J.nt];exact bj _⟩ J.run).2,J.run⟩;unfold gg at W;rw[aj J.run]at W;obtain⟨c1,g3,W⟩:=W;obtain⟨r3,e3⟩:=Hh Z J R2 hl a4 g3;have e4:=yK r3 1 W;subst e4;rw[aa (by rw[r3];decide)];exact e3
