import Derived.Test.YtnjiinbhbjpfkaaGreatDoorStpJ
import Derived.Deep.LoopGhost
set_option maxRecDepth 100000
set_option maxHeartbeats 0
set_option linter.all false
namespace Go.Proofs.YtnjiinbhbjpfkaaGreatDoor
open Go.RowKit Go.Proofs.Tryz
namespace D
open F
variable {p : Dp} {m m' : Dm} {g g' : Dg} {w w' : World}
abbrev jY(op a b c:Nat):Value:=.agg #[.int .i64 (op:Int),.int .i64 (a:Int),.int .i64 (b:Int),.int .i64 (c:Int)]
theorem Iz{rb nr:Nat}{R:Nat->B.V}(h:Full w rb 115 (nr*2) (nr*2) (eC R)){a:Nat}(o:a<nr):w.cell? ⟨rb,a*2,none⟩=some (.int .i64 ((R a).1:Int))/\w.cell? ⟨rb,a*2+1,none⟩=some (.int .i64 (R a).2)/\w.frozen? ⟨rb,a*2,none⟩=false/\w.frozen? ⟨rb,a*2+1,none⟩=false:=by
 obtain⟨c0,e⟩:=h.cells (a*2) (by omega);obtain⟨c1,i⟩:=h.cells (a*2+1) (by omega);unfold eC at c0 c1;rw[aj (by omega),show a*2 / 2=a by omega]at c0;rw[aa (by omega),show(a*2+1) / 2=a by omega]at c1;exact⟨c0,c1,e,i⟩
theorem dQ.cc(h:dQ p m g w){c:Nat}(H:1<=c)(G:c<=m.nc):∃e,(g.ro 3 0).1=some ⟨e,0,none⟩/\e<w.heap.size/\w.cell? ⟨g.mb,12,none⟩=some (.slice (some ⟨e,0,none⟩) m.nc (g.ro 3 0).2)/\w.cell? ⟨e,(c-1)*2,none⟩=some (.slice (some ⟨g.sb c,0,none⟩) (m.M c).length (m.M c).length)/\w.cell? ⟨e,(c-1)*2+1,none⟩=some (.int .i64 ((m.ck c:Int)-1)):=by
 obtain⟨b,o,u,y,i⟩:=h.C (by omega);have k0:=i.cell ((c-1)*2) (by omega);have k1:=i.cell ((c-1)*2+1) (by omega);unfold cE at k0 k1;rw[aj (by omega),show(c-1)*2 / 2+1=c by omega]at k0;rw[aa (by omega),show((c-1)*2+1) / 2+1=c by omega]at k1;refine⟨b,o,i.lt,?_,k0,k1⟩;rw[<-o];exact(h.mc 12 (by omega) rfl).1
theorem Cr{rb t i nr op a b c:Nat}{v1:Int}(J:b<nr)(r0:w.cell? ⟨i,b*2,none⟩=some (.int .i64 0))(W:w.cell? ⟨i,b*2+1,none⟩=some (.int .i64 v1)): Calls prog 227 #[P0 rb,.int .i64 t,.slice (some ⟨i,0,none⟩) nr nr,jY op a b c] w λe w'=>e=.returned (.int .i64 4)/\w.grownBy w' none:=by
 have G:i<w.heap.size:=av w _ r0;have y:(b:Int)<nr:=by omega
 go_in;go_wp2_with fail
 have u:Hid (w.grownBy ((w.alloc (.cells #[.int .i64 op,.int .i64 a,.int .i64 b,.int .i64 c] 90)).alloc (.cells #[.int .i64 0,.int .i64 v1] 115)) none):=au (au (ax _ _) _) _;have H:((w.alloc (.cells #[.int .i64 op,.int .i64 a,.int .i64 b,.int .i64 c] 90)).alloc (.cells #[.int .i64 0,.int .i64 v1] 115)).cell? ⟨w.heap.size+1,0,none⟩=some (.int .i64 0):=by simp[go_sem]
 generalize (w.alloc (.cells #[.int .i64 op,.int .i64 a,.int .i64 b,.int .i64 c] 90)).alloc (.cells #[.int .i64 0,.int .i64 v1] 115)=w2 at *;go_quiet (fail)
 go_wp2_with fail
 go_ret;exact⟨rfl,db u _⟩
structure LN(w:World) (rb rr nr b c z cb nc cc sN sl:Nat) (v1 u1:Int) (x y:B.V):Prop where
 hb:b<nr
 hc:c<nr
 hz:z<nc
 hn:nc<1000000000
 r0:w.cell? ⟨rr,b*2,none⟩=some (.int .i64 ((z:Int)+1))
 r1:w.cell? ⟨rr,b*2+1,none⟩=some (.int .i64 v1)
 BL:w.cell? ⟨rb,12,none⟩=some (.slice (some ⟨cb,0,none⟩) nc cc)
 k0:w.cell? ⟨cb,z*2,none⟩=some (.slice (some ⟨sN,0,none⟩) sl sl)
 k1:w.cell? ⟨cb,z*2+1,none⟩=some (.int .i64 u1)
 lr:rr<w.heap.size
 lb:rb<w.heap.size
 lc:cb<w.heap.size
theorem Cq{rb t o nr op a b c z cb H cc sN sl:Nat}{v1 G:Int}{x y:B.V}(h:LN w rb o nr b c z cb H cc sN sl v1 G x y)(hu:G<0): Calls prog 227 #[P0 rb,.int .i64 t,.slice (some ⟨o,0,none⟩) nr nr,jY op a b c] w λe w'=>e=.returned (.int .i64 4)/\w.grownBy w' none:=by
 obtain⟨hb,hc,hz,hn,W,r1,i,k0,k1,lr,Z,Y⟩:=h;have a0:(b:Int)<nr:=by omega
 have q1:IntKind.i64.wrap ((z:Int)+1-1)=(z:Int):=fp (by omega);have q2:IntKind.i64.wrap (z:Int)=z:=by rw[bl,bd _ (by omega)]
 have q3:(z:Int)<H:=by omega
 have q4:(0:Int)<=z:=by omega
 have q5:(((z:Int)+1) == 0)=false:=by rw[dK];omega
 go_in;go_wp2_with fail
 have u:Hid (w.grownBy ((w.alloc (.cells #[.int .i64 op,.int .i64 a,.int .i64 b,.int .i64 c] 90)).alloc (.cells #[.int .i64 ((z:Int)+1),.int .i64 v1] 115)) none):=au (au (ax _ _) _) _;have x0:((w.alloc (.cells #[.int .i64 op,.int .i64 a,.int .i64 b,.int .i64 c] 90)).alloc (.cells #[.int .i64 ((z:Int)+1),.int .i64 v1] 115)).cell? ⟨w.heap.size+1,0,none⟩=some (.int .i64 ((z:Int)+1)):=by simp[go_sem]
 generalize (w.alloc (.cells #[.int .i64 op,.int .i64 a,.int .i64 b,.int .i64 c] 90)).alloc (.cells #[.int .i64 ((z:Int)+1),.int .i64 v1] 115)=w2 at *;have a1:=(bh u (a:=⟨rb,12,none⟩) Z).1.trans i;have d1:=(bh u (a:=⟨cb,z*2+1,none⟩) Y).1.trans k1;go_quiet (fail)
 go_wp2_with fail
 go_ret;exact⟨rfl,db u _⟩
structure Kl(w w2:World) (rb rr op a b c z cb nc cc sN sl:Nat) (v1 u1:Int):Prop where
 g:w.grownBy w2 none
 i0:w2.cell? ⟨w.heap.size,0,none⟩=some (.int .i64 (op:Int))
 i1:w2.cell? ⟨w.heap.size,1,none⟩=some (.int .i64 (a:Int))
 i3:w2.cell? ⟨w.heap.size,3,none⟩=some (.int .i64 (c:Int))
 x0:w2.cell? ⟨w.heap.size+1,0,none⟩=some (.int .i64 ((z:Int)+1))
 d12:w2.cell? ⟨rb,12,none⟩=some (.slice (some ⟨cb,0,none⟩) nc cc)
 d0:w2.cell? ⟨cb,z*2,none⟩=some (.slice (some ⟨sN,0,none⟩) sl sl)
 d1:w2.cell? ⟨cb,z*2+1,none⟩=some (.int .i64 u1)
 s:w.heap.size+1<w2.heap.size
theorem Kl.drewN{w2:World}{rb e op a b c z cb u cc o sl:Nat}{v1 i:Int}(h:Kl w w2 rb e op a b c z cb u cc o sl v1 i)(n:Nat):Kl w (w2.drewN n) rb e op a b c z cb u cc o sl v1 i:=⟨db h.g n,h.i0,h.i1,h.i3,h.x0,h.d12,h.d0,h.d1,h.s⟩
theorem Mr{rb i nr op a b c z cb u cc G sl:Nat}{v1 o:Int}{x y:B.V}(h:LN w rb i nr b c z cb u cc G sl v1 o x y):Kl w ((w.alloc (.cells #[.int .i64 op,.int .i64 a,.int .i64 b,.int .i64 c] 90)).alloc (.cells #[.int .i64 ((z:Int)+1),.int .i64 v1] 115)) rb i op a b c z cb u cc G sl v1 o:=by
 have e:w.grownBy ((w.alloc (.cells #[.int .i64 op,.int .i64 a,.int .i64 b,.int .i64 c] 90)).alloc (.cells #[.int .i64 ((z:Int)+1),.int .i64 v1] 115)) none:=au (au (ax _ _) _) _;exact⟨e,by simp[go_sem],by simp[go_sem],by simp[go_sem],by simp[go_sem],(bh e (a:=⟨rb,12,none⟩) h.lb).1.trans h.BL,(bh e (a:=⟨cb,z*2,none⟩) h.lc).1.trans h.k0,(bh e (a:=⟨cb,z*2+1,none⟩) h.lc).1.trans h.k1,by simp⟩
def L4(w2 wx:World)(X sN sl:Nat)(u1:Int):Prop:=w2.grownBy wx none/\wx.cell? ⟨X,0,none⟩=some (.slice (some ⟨sN,0,none⟩) sl sl)/\wx.cell? ⟨X,1,none⟩=some (.int .i64 u1)/\w2.heap.size<=X
theorem Mq(e:World)(o sl:Nat)(i:Int):L4 e ((e.alloc (.cells #[.slice (some ⟨o,0,none⟩) sl sl,.int .i64 i] 233)).drew) e.heap.size o sl i:=
 ⟨bq (ah _ _ none),(by simp[go_sem]),(by simp[go_sem]),bj _⟩
theorem Tryz.Fe:(prog.info? 163).map (λi=>(i.zero,i.size,i.bytes))=some (some (.agg #[.int .i64 0,.slice none 0 0,.int .i64 0,.int .i64 0]),4,48):=by kernel_rfl
theorem Tryz.underlying165:prog.underlying 165=some (.slice 163):=by kernel_rfl
theorem GY{t b tb kb ck:Nat}{o2:Obj}{w2 w6 W:World}{f:gY}(h:dQ p m g w)(ht:mF m t)(hb:g.ro 1 0=(some ⟨tb,0,none⟩,(g.ro 1 0).2))(hg:w.grownBy w2 none)(hV:Full w2 b 115 (p.rg f.f*2) (p.rg f.f*2) (eC f.R))(a5:w.heap.size<=b)(ho:w6.ownsRow 0 163 4 (.slice (some ⟨kb,0,none⟩) ((m.T t).fr.length+1) ck) ((m.T t).fr.length+1) (rowP ((m.T t).fr.length*4) (fE p m g t)++[fC p f b 0,fC p f b 1,fC p f b 2,fC p f b 3]))(o:W.grownBy w6 (Value.slice (g.ro 5 t).1 (m.T t).fr.length (g.ro 5 t).2).ownBlock)(a6:jE W.heap.size (.slice (g.ro 5 t).1 (m.T t).fr.length (g.ro 5 t).2) (.slice (some ⟨kb,0,none⟩) ((m.T t).fr.length+1) ck))(hW:W.heap=(w2.alloc o2).heap)(Y:W.os=w2.os/\W.tape=w2.tape/\W.output=w2.output): ∃g1,Tr p m g w (m.push t f) g1 (w6.setCell ⟨tb,(t-1)*8,none⟩ (.slice (some ⟨kb,0,none⟩) ((m.T t).fr.length+1) ck)):=by
 have:=ht.1;have:=ht.2;have a2:(Value.slice (g.ro 5 t).1 (m.T t).fr.length (g.ro 5 t).2).ownBlock=eO (g.ro 5 t).1:=dr _ _ _;rw[a2]at o;have a8:W.heap.size=w2.heap.size+1:=by rw[hW];simp
 obtain⟨u,i,h1,a7,h3⟩:=(h.kept hg).T (by omega);have a4:u=tb:=by rw[hb]at i;injection i with i;injection i with i _;exact i.symm
 subst a4;have v5:=pX (p:=p) (m:=m) ht.1 ht.2;have G:∀k,eO (g.ro 5 t).1=some k->k<w.heap.size/\k≠u:=λk H=>⟨h.lt ⟨5,t,0,by rw[fP v5];exact H⟩,h.ne (x:=5) (y:=t) (z:=0) (x':=1) (y':=0) (z':=0) v5 rfl H ((Bw p m hb u).2 rfl) (by omega)⟩;have a9:=hg.size;have Z:∀k,k<w2.heap.size->eO (g.ro 5 t).1≠some k->w6.heap[k]? = w2.heap[k]?:=λk H hn=>by
  rw[o.block k (by omega) (λe=>hn e.symm),hW,ak _ _ _ H]
 have a0:=h3.block (Z u h3.lt (λe=>(G _ e).2 rfl));have a1:=hV.block (Z b hV.lt (λe=>by have:=(G _ e).1;omega));have J:eO (g.ro 5 t).1=some kb\/W.heap.size<=kb:=by
  rcases a6 with e|⟨u,e1,e2⟩
  .left
   rw[<-a2,<-e];rfl
  right
  have:kb=u:=by injection e1
  omega
 have aA:=h.lt ⟨1,0,0,(Bw p m hb u).2 rfl⟩;have a3:kb≠u:=by
  rcases J with e|e
  .exact(G _ e).2
  omega
 refine⟨_,h.push ht (tb:=u) (kb:=kb) (ck:=ck) (vb:=b) (f:=f) hb (bm (S:=λk=>k=u\/eO (g.ro 5 t).1=some k) (a:=⟨u,(t-1)*8,none⟩) ⟨o.os.trans (Y.1.trans hg.os),o.tape.trans (Y.2.1.trans hg.tape),o.output.trans (Y.2.2.trans hg.output),by have:=o.size;omega,λk H hn=>(Z k (by omega) (λe=>hn (ab e))).trans (hg.block k H (by intro e;cases e))⟩ (ag (ag rfl)) _) (a0.ep _ _) ?_ ?_ (J.imp id (λe=>by omega)) a5 ?_⟩
 .exact dD ho (λk H=>af _ _ _ _ (by
   have:k=kb:=by simpa[Value.ownBlock] using H.symm
   rw[this];exact a3))
 .exact a1.off (a1.ne a0 (by decide))
 rcases J with e|e
 .have:=(G _ e).1;omega
 have:=hV.lt;omega
def LM(wc wx:World)(Y b f into nr:Nat)(x y:B.V):Prop:=wc.grownBy wx none/\wx.heap[Y]? = some (.cells #[.int .i64 (f:Int),.slice (some ⟨b,0,none⟩) nr nr,.int .i64 0,.int .i64 (into:Int)] 163 (0,0))/\wc.heap.size<=b/\wc.heap.size<=Y/\Full wx b 115 (nr*2) (nr*2) (eC (gh x y))
theorem Lr{wc e:World}{b f into nr:Nat}{x y:B.V}(o:wc.grownBy e none)(i:Full e b 115 (nr*2) (nr*2) (eC (gh x y)))(u:wc.heap.size<=b):LM wc (e.alloc (.cells #[.int .i64 f,.slice (some ⟨b,0,none⟩) nr nr,.int .i64 0,.int .i64 into] 163)) e.heap.size b f into nr x y:=
 ⟨au o _,bf _ _,u,o.size,i.block (ak _ _ _ i.lt)⟩
theorem Lp{wc e:World}{b f into nr:Nat}{x y:B.V}(u:wc.grownBy e none)(i:Full e b 115 (nr*2) (nr*2) (eC (gh x y)))(G:wc.heap.size+1<=b)(o:e.heap[wc.heap.size]? = some (.cells #[.int .i64 0,.slice none 0 0,.int .i64 0,.int .i64 0] 163 (0,0))):LM wc ((((e.setCell ⟨wc.heap.size,0,none⟩ (.int .i64 f)).setCell ⟨wc.heap.size,1,none⟩ (.slice (some ⟨b,0,none⟩) nr nr)).setCell ⟨wc.heap.size,2,none⟩ (.int .i64 0)).setCell ⟨wc.heap.size,3,none⟩ (.int .i64 into)) wc.heap.size b f into nr x y:=by
 refine⟨bp (bp (bp (bp u (ab (bj _)) _) (ab (bj _)) _) (ab (bj _)) _) (ab (bj _)) _,?_,by omega,bj _,(((i.off (by omega)).off (by omega)).off (by omega)).off (by omega)⟩;simp[World.setCell,cn,o]
def vO(P:Nat->Bool):Nat->Nat
 | 0=>0
 | n+1=>vO P n+if P (n+1)=true then 1 else 0
theorem DN(P:Nat->Bool):∀n,BJ (λt=>(1<=t/\t<=n)/\P t=true) (vO P n)
 | 0=>⟨[],List.nodup_nil,λt=>⟨λh=>(by cases h),λh=>(by omega)⟩,rfl⟩
 | n+1=>by
  obtain⟨l,y,u,G⟩:=DN P n;have i:n+1∉l:=λh=>by have:=((u _).1 h).1;omega
  by_cases e:P (n+1)=true
  .refine⟨(n+1) :: l,List.nodup_cons.2 ⟨i,y⟩,λt=>?_,by rw[vO,aj e,G];rfl⟩;rw[List.mem_cons,u];constructor
   .rintro(rfl|h)
    .exact⟨⟨by omega,bj _⟩,e⟩
    exact⟨⟨h.1.1,by omega⟩,h.2⟩
   intro h;by_cases o:t=n+1
   .exact ag o
   exact ab ⟨⟨h.1.1,by omega⟩,h.2⟩
  refine⟨l,y,λt=>?_,by rw[vO,aa e,G];rfl⟩;rw[u];constructor
  .intro h;exact⟨⟨h.1.1,by omega⟩,h.2⟩
  intro h;have:t≠n+1:=λo=>e (o▸h.2);exact⟨⟨h.1.1,by omega⟩,h.2⟩
theorem F0(h:dQ p m g w)(hn:m.nt≠0):Calls prog 77 #[P0 g.mb] w λe w'=>∃N:Nat,e=.returned (.int .i64 N)/\N<=m.nt/\D7 m N/\w.grownBy w' none:=by
 obtain⟨tb,hb,hl,hm,Z⟩:=h.T hn;have c6:w.cell? ⟨g.mb,6,none⟩=some (.slice (some ⟨tb,0,none⟩) m.nt (g.ro 1 0).2):=by rw[<-hb];exact(h.mc 6 (by omega) rfl).1
 have a5:m.nt<=9223372036854775807:=by unfold maxLen at hm;omega
 have HF:=az Z;have lt:=Z.lt;generalize g.mb=rb at *;go_in;go_wp2_with fail
 go_loopw [3,4] (λn i wr=>∃(N I:Nat),n=.int .i64 N/\i=.int .i64 I/\I<=m.nt/\N<=I/\Hid (N=vO (λt=>decide ((m.T t).how≠5)) I)/\Hid (w.grownBy wr none)) (λ_ i _=>m.nt-(intOf i).toNat)
 case atStart=>exact⟨0,0,rfl,rfl,by omega,by omega,rfl,ax _ _⟩
 case round=>
  obtain⟨N,I,rfl,rfl,hI,hN,J,H⟩:=hrel;have y:=λ(k:Nat) (y:k<w.heap.size)=>H.block k y (by intro e;cases e);have d6:=(aw (a:=⟨rb,6,none⟩) (y rb (av w _ c6))).trans c6;have o:=HF.block (y tb lt);by_cases a4:I<m.nt
  .have hc:∀k,k<8->wr.cell? ⟨tb,I*8+k,none⟩=some (tC (m.T (I+1)) (iR m g 5 (I+1)) k):=λk y=>(o.cell (I*8+k) (by omega)).trans (congrArg some (pc m g (t:=I+1) (by omega) y (by omega)));have a1:(I:Int)<m.nt:=by omega
   have c1:wr.cell? ⟨tb,I*8+1,none⟩=some (.int .i64 ((m.T (I+1)).how:Int)):=hc 1 (by omega);have u:vO (λt=>decide ((m.T t).how≠5)) (I+1)=vO (λt=>decide ((m.T t).how≠5)) I+if decide ((m.T (I+1)).how≠5)=true then 1 else 0:=rfl
   generalize (m.T (I+1)).how=hw at *;clear o hc;by_cases h5:hw=5
   .have Y:Hid (N=vO (λt=>decide ((m.T t).how≠5)) (I+1)):=by show _=_;rw[u,aa (by simpa using h5)];exact J
    go_wp2_with fail
    go_roundw
    case rel=>exact⟨N,I+1,rfl,by go_num,by omega,by omega,Y,H⟩
    case measure=>simp[intOf];omega
   have W:¬((hw:Int)=5):=by omega
   have Y:Hid (N+1=vO (λt=>decide ((m.T t).how≠5)) (I+1)):=by show _=_;rw[u,aj (by simpa using h5)];have:=J.out;omega
   go_wp2_with fail
   go_roundw
   case rel=>exact⟨N+1,I+1,by go_num,by go_num,by omega,by omega,Y,H⟩
   case measure=>simp[intOf];omega
  obtain rfl:I=m.nt:=by omega
  have G:D7 m N:=by
   rw[J.out];obtain⟨l,l1,l2,l3⟩:=DN (λt=>decide ((m.T t).how≠5)) m.nt;exact⟨l,l1,λt=>by rw[l2];simp[mF],l3⟩
  have a0:=az G;go_wp2_with fail
  go_ret;exact⟨N,rfl,by omega,a0,H⟩
def oy(m:Dm)(how what I b:Nat):Prop:=
 (b=0/\∀u,1<=u->u<=I->¬((m.T u).how=how/\(m.T u).what=what))\/((1<=b/\b<=I)/\(m.T b).how=how/\(m.T b).what=what/\∀u,1<=u->u<=I->(m.T u).how=how->(m.T u).what=what->(m.T b).ji<=(m.T u).ji)
theorem oy.no{how what I b:Nat}(h:oy m how what I b)(hn:¬((m.T (I+1)).how=how/\(m.T (I+1)).what=what)):oy m how what (I+1) b:=by
 rcases h with⟨y,o⟩|⟨y,o,Y,W⟩
 .exact ag ⟨y,λu i J=>by
   by_cases e:u=I+1
   .rw[e];exact hn
   exact o u i (by omega)⟩
 exact ab ⟨⟨y.1,by omega⟩,o,Y,λu i J H G=>by
  by_cases e:u=I+1
  .subst e;exact ch ⟨H,G⟩ hn
  exact W u i (by omega) H G⟩
theorem oy.kU{how what I b:Nat}(h:oy m how what I b)(H:b≠0)(hn:(m.T b).ji<=(m.T (I+1)).ji):oy m how what (I+1) b:=by
 rcases h with⟨i,o⟩|⟨i,o,W,J⟩
 .exact ch i H
 exact ab ⟨⟨i.1,by omega⟩,o,W,λu G Z Y y=>by
  by_cases e:u=I+1
  .rw[e];exact hn
  exact J u G (by omega) Y y⟩
theorem oy.take{how what I b:Nat}(h:oy m how what I b)(Y:(m.T (I+1)).how=how)(H:(m.T (I+1)).what=what)(hb:b=0\/(m.T (I+1)).ji<(m.T b).ji):oy m how what (I+1) (I+1):=by
 refine ab ⟨⟨by omega,bj _⟩,Y,H,λu y Z i o=>?_⟩;by_cases e:u=I+1
 .rw[e];exact bj _
 rcases h with⟨W,G⟩|⟨W,G,h2,J⟩
 .exact ch ⟨i,o⟩ (G u y (by omega))
 have:=J u y (by omega) i o;omega
theorem ke(w:World)(Z u J o G i H Y:Value): ∃W,w.alloc (.cells #[Z,u,J,o,G,i,H,Y] 167)=W/\W.cell? ⟨w.heap.size,1,none⟩=some u/\W.cell? ⟨w.heap.size,3,none⟩=some o/\W.cell? ⟨w.heap.size,4,none⟩=some G/\W.cell? ⟨w.heap.size,5,none⟩=some i/\w.heap.size<W.heap.size/\w.grownBy W none/\(∀a v,w.cell? a=some v->W.cell? a=some v):=by
 have y:=bf w (.cells #[Z,u,J,o,G,i,H,Y] 167);have hg:=ah w (.cells #[Z,u,J,o,G,i,H,Y] 167) none;generalize w.alloc (.cells #[Z,u,J,o,G,i,H,Y] 167)=W at *;refine⟨_,rfl,by simp[World.cell?,y],by simp[World.cell?,y],by simp[World.cell?,y],by simp[World.cell?,y],bz y,hg,λa v h=>?_⟩;exact(aw (hg.block a.block (av w _ h) (by intro e;cases e))).trans h
theorem BY{tb cap:Nat}{wr:World}(i:Full wr tb 167 (cap*8) (m.nt*8) (tE m g)){N k:Nat}(u:N≠0)(o:N<=m.nt)(e:k<8):wr.cell? ⟨tb,(N-1)*8+k,none⟩=some (tC (m.T N) (iR m g 5 N) k):=(i.cell ((N-1)*8+k) (by omega)).trans (congrArg some (pc m g (t:=N) (by omega) e rfl))
theorem Hv(h:dQ p m g w)(hn:m.nt≠0)(how what:Nat):Calls prog 192 #[P0 g.mb,.int .i64 how,.int .i64 what] w λe w'=>∃b:Nat,e=.returned (.int .i64 b)/\b<=m.nt/\Iv m how what b/\w.grownBy w' none:=by
 obtain⟨tb,hb,hl,hm,hF⟩:=h.T hn;have c6:w.cell? ⟨g.mb,6,none⟩=some (.slice (some ⟨tb,0,none⟩) m.nt (g.ro 1 0).2):=by rw[<-hb];exact(h.mc 6 (by omega) rfl).1
 have aE:m.nt<=9223372036854775807:=by unfold maxLen at hm;omega
 have HF:=az hF;have lt:=hF.lt;clear hF hm hb hl h;generalize g.mb=rb at *;go_in;go_wp2_with fail
 go_loopw [7,8] (λn i wr=>∃(N I:Nat),n=.int .i64 N/\i=.int .i64 I/\I<=m.nt/\N<=I/\Hid (oy m how what I N)/\Hid (w.grownBy wr none)) (λ_ i _=>m.nt-(intOf i).toNat)
 case atStart=>exact⟨0,0,rfl,rfl,by omega,by omega,ag ⟨rfl,λu u1 u2=>by omega⟩,ax _ _⟩
 case round=>
  obtain⟨N,I,rfl,rfl,hI,hN,Z,Y⟩:=hrel;have hk:=λ(k:Nat) (hk:k<w.heap.size)=>Y.block k hk (by intro e;cases e);have d6:=(aw (a:=⟨rb,6,none⟩) (hk rb (av w _ c6))).trans c6;have a0:=HF.block (hk tb lt);have aC:=a0.lt;have aG:rb<wr.heap.size:=av wr _ d6;clear hk;by_cases aD:I<m.nt
  .have hc:∀k,k<8->wr.cell? ⟨tb,I*8+k,none⟩=some (tC (m.T (I+1)) (iR m g 5 (I+1)) k):=λk hk=>(a0.cell (I*8+k) (by omega)).trans (congrArg some (pc m g (t:=I+1) (by omega) hk (by omega)));have aB:(I:Int)<m.nt:=by omega
   have a6:N≠0->wr.cell? ⟨tb,(N-1)*8+5,none⟩=some (.int .i64 ((m.T N).ji:Int)):=λh=>BY a0 h (by omega) (by omega);have c0:wr.cell? ⟨tb,I*8,none⟩=some (.slice (g.ro 5 (I+1)).1 (m.T (I+1)).fr.length (g.ro 5 (I+1)).2):=hc 0 (by omega);have c1:wr.cell? ⟨tb,I*8+1,none⟩=some (.int .i64 ((m.T (I+1)).how:Int)):=hc 1 (by omega);have c2:wr.cell? ⟨tb,I*8+2,none⟩=some (.int .i64 (m.T (I+1)).into):=hc 2 (by omega);have c3:wr.cell? ⟨tb,I*8+3,none⟩=some (.int .i64 ((m.T (I+1)).what:Int)):=hc 3 (by omega);have c4:wr.cell? ⟨tb,I*8+4,none⟩=some (.int .i64 (m.T (I+1)).km):=hc 4 (by omega);have c5:wr.cell? ⟨tb,I*8+5,none⟩=some (.int .i64 ((m.T (I+1)).ji:Int)):=hc 5 (by omega);have aF:wr.cell? ⟨tb,I*8+6,none⟩=some (.int .i64 ((m.T (I+1)).out.1:Int)):=hc 6 (by omega);have c7:wr.cell? ⟨tb,I*8+7,none⟩=some (.int .i64 (m.T (I+1)).out.2):=hc 7 (by omega);generalize (g.ro 5 (I+1)).1=a1 at *;generalize (g.ro 5 (I+1)).2=a2 at *;generalize hx:m.T (I+1)=x at *;clear hc a0;by_cases h1:x.how=how
   .by_cases h2:x.what=what
    .by_cases h3:N=0
     .have K:Hid (oy m how what (I+1) (I+1)):=Z.take (by rw[hx];exact h1) (by rw[hx];exact h2) (ag h3);clear Z;go_wp2_with fail
      obtain⟨W,J,f1,f3,f4,f5,lW,G,o⟩:=ke wr _ _ _ _ _ _ _ _;rw[J];have y:Hid (w.grownBy W none):=an Y G
      clear J o G Y;go_quiet (fail)
      go_wp2_with fail
      go_roundw
      case rel=>exact⟨I+1,I+1,by go_num,by go_num,by omega,by omega,K,⟨y.os,y.tape,y.output,y.size,y.block⟩⟩
      case measure=>simp[intOf];omega
     have j3:¬((N:Int)=0):=by omega
     by_cases h4:x.ji<(m.T N).ji
     .have j4:(x.ji:Int)<((m.T N).ji:Int):=by omega
      have K:=az (Z.take (by rw[hx];exact h1) (by rw[hx];exact h2) (ab (by rw[hx];exact h4)));clear Z;go_wp2_with fail
      obtain⟨W,J,f1,f3,f4,f5,lW,G,o⟩:=ke wr _ _ _ _ _ _ _ _;rw[J];have e6:=o _ _ d6;have y:=az (an Y G)
      have a5:=o _ _ (a6 h3)
      have aA:((N:Int) == 0)=false:=by simpa using j3
      have a4:IntKind.i64.wrap ((N:Int)-1)=((N-1:Nat):Int):=by simp[IntKind.wrap,IntKind.bits,IntKind.signed];omega
      have a3:N-1<m.nt:=by omega
      generalize N-1=M at a5 a4 a3;have a8:(M:Int)<m.nt:=by omega
      clear J o G Y;go_quiet (fail)
      go_wp2_with fail
      go_roundw
      case rel=>exact⟨I+1,I+1,by go_num,by go_num,by omega,by omega,K,⟨y.os,y.tape,y.output,y.size,y.block⟩⟩
      case measure=>simp[intOf];omega
     have j4:¬((x.ji:Int)<((m.T N).ji:Int)):=by omega
     have K:=az (Z.kU h3 (by rw[hx];omega));clear Z;go_wp2_with fail
     obtain⟨W,J,f1,f3,f4,f5,lW,G,o⟩:=ke wr _ _ _ _ _ _ _ _;rw[J];have e6:=o _ _ d6;have y:=az (an Y G)
     have a5:=o _ _ (a6 h3)
     have aA:((N:Int) == 0)=false:=by simpa using j3
     have a4:IntKind.i64.wrap ((N:Int)-1)=((N-1:Nat):Int):=by simp[IntKind.wrap,IntKind.bits,IntKind.signed];omega
     have a3:N-1<m.nt:=by omega
     generalize N-1=M at a5 a4 a3;have a8:(M:Int)<m.nt:=by omega
     clear J o G Y;go_quiet (fail)
     go_wp2_with fail
     go_roundw
     case rel=>exact⟨N,I+1,by go_num,by go_num,by omega,by omega,K,⟨y.os,y.tape,y.output,y.size,y.block⟩⟩
     case measure=>simp[intOf];omega
    have j2:¬((x.what:Int)=what):=by omega
    have b2:((x.what:Int) == (what:Int))=false:=by simpa using j2
    have K:=az (Z.no (by rw[hx];exact λe=>h2 e.2));clear Z;go_wp2_with fail
    obtain⟨W,J,f1,f3,f4,f5,lW,G,o⟩:=ke wr _ _ _ _ _ _ _ _;rw[J];have y:Hid (w.grownBy W none):=an Y G
    clear J o G Y;go_quiet (fail)
    go_wp2_with fail
    go_roundw
    case rel=>exact⟨N,I+1,by go_num,by go_num,by omega,by omega,K,⟨y.os,y.tape,y.output,y.size,y.block⟩⟩
    case measure=>simp[intOf];omega
   have j1:¬((x.how:Int)=how):=by omega
   have b1:((x.how:Int) == (how:Int))=false:=by simpa using j1
   have K:=az (Z.no (by rw[hx];exact λe=>h1 e.1));clear Z;go_wp2_with fail
   obtain⟨W,J,f1,f3,f4,f5,lW,G,o⟩:=ke wr _ _ _ _ _ _ _ _;rw[J];have y:Hid (w.grownBy W none):=an Y G
   clear J o G Y;go_quiet (fail)
   go_wp2_with fail
   go_roundw
   case rel=>exact⟨N,I+1,by go_num,by go_num,by omega,by omega,K,⟨y.os,y.tape,y.output,y.size,y.block⟩⟩
   case measure=>simp[intOf];omega
  obtain rfl:I=m.nt:=by omega
  have a9:Hid (Iv m how what N):=by
   rcases Z with⟨h0,h1⟩|⟨h0,h1,h2,h3⟩
   .exact ag ⟨h0,λu hu=>h1 u hu.1 hu.2⟩
   exact ab ⟨h0,h1,h2,λu hu=>h3 u hu.1 hu.2⟩
  clear a0 Z;go_wp2_with fail
  go_ret;exact⟨N,rfl,by omega,a9,Y⟩
end D
namespace F
theorem LW.same{s s':Pl}(h:LW s)(hn:s'.nt=s.nt)(e:s'.q=s.q)(hw:∀u,(s'.T u).wh=(s.T u).wh):LW s':=by
 refine⟨λt ht x y o=>?_,λx y i t ht=>?_,λx y i=>?_,by rw[hn];exact h.d⟩
 .rw[hw]at o;have:=h.a t ((eg hn).1 ht) x y o;exact⟨(fQ hn).2 this.1,by rw[e];exact this.2.1,this.2.2⟩
 .rw[e]at ht;have:=h.b x y ((fQ hn).1 i) t ht;exact⟨(eg hn).2 this.1,by rw[hw];exact this.2⟩
 rw[e];exact h.c x y ((fQ hn).1 i)
theorem gd{s:Pl}{t:Nat}(h:(s.T t).wh=none):s.dw t=s:=by unfold Pl.dw;rw[h]
theorem fN{s:Pl}{t x y:Nat}(h:(s.T t).wh=some (x,y)):s.dw t=(s.eZ x y ((s.q x y).erase t)).dv t (s.T t).off:=by unfold Pl.dw;rw[h]
theorem jd(s:Pl)(t:Nat):((s.dw t).T t).wh=none:=by
 cases h:(s.T t).wh with
 | none=>rw[gd h];exact h
 | some e=>rw[fN (x:=e.1) (y:=e.2) h,df];rfl
theorem sX(s:Pl){t u:Nat}(h:u≠t):(s.dw t).T u=s.T u:=by
 cases hw:(s.T t).wh with
 | none=>rw[gd hw]
 | some e=>rw[fN (x:=e.1) (y:=e.2) hw,dP _ _ h];rfl
theorem LW.dw{s:Pl}(h:LW s){t:Nat}(ht:fe s t):LW (s.dw t):=by
 cases hw:(s.T t).wh with
 | none=>rw[gd hw];exact h
 | some xy=>
  obtain⟨x,y⟩:=xy;obtain⟨hl,hm,a0⟩:=h.a t ht x y hw;rw[fN hw];have hn:((s.eZ x y ((s.q x y).erase t)).dv t (s.T t).off).nt=s.nt:=rfl;refine⟨λu Z a b o=>?_,λa b J u Z=>?_,λa b J=>?_,h.d⟩
  .have e:u≠t:=λe=>by
    subst e;rw[df]at o
    cases o
   rw[dP _ _ e]at o;obtain⟨k1,k2,k3⟩:=h.a u ((eg hn).1 Z) a b o;refine⟨(fQ hn).2 k1,?_,k3⟩;show u∈(s.eZ x y ((s.q x y).erase t)).q a b;by_cases i:a=x/\b=y
   .obtain⟨rfl,rfl⟩:=i;rw[fX];exact(List.mem_erase_of_ne e).2 k2
   rw[fL _ _ i];exact k2
  .have G:u∈(s.eZ x y ((s.q x y).erase t)).q a b:=Z;have H:=(fQ hn).1 J;by_cases i:a=x/\b=y
   .obtain⟨rfl,rfl⟩:=i;rw[fX]at G;have Y:=(h.c a b hl).mem_erase_iff.1 G;rw[dP _ _ Y.1];exact h.b a b H u Y.2
   rw[fL _ _ i]at G;have hb:=h.b a b H u G;have e:u≠t:=λe=>by
    subst e;have W:=hb.2;rw[hw]at W;injection W with W;injection W with W h3;exact i ⟨W.symm,h3.symm⟩
   rw[dP _ _ e];exact hb
  show((s.eZ x y ((s.q x y).erase t)).q a b).Nodup;have H:=(fQ hn).1 J;by_cases i:a=x/\b=y
  .obtain⟨rfl,rfl⟩:=i;rw[fX];exact(h.c a b hl).erase _
  rw[fL _ _ i];exact h.c a b H
def Pl.pG(s:Pl)(x y t:Nat)(l:List Nat):Pl:=(s.eZ x y l).dv t ((s.T t).to x y)
def Pl.into(s:Pl)(x y t:Nat)(l:List Nat):Pl:=(s.dw t).pG x y t l
theorem yM(s:Pl)(x y t:Nat):s.dV x y t=s.into x y t ((s.dw t).q x y++[t]):=rfl
theorem LW.pG{s:Pl}(h:LW s){x y t:Nat}{l:List Nat}(ht:fe s t)(hw:(s.T t).wh=none)(hl:fz s x y)(a1:¬(x=5/\y=t))(hd:l.Nodup)(hm:∀u,u∈l↔(u∈s.q x y\/u=t)):LW (s.pG x y t l):=by
 have hn:(s.pG x y t l).nt=s.nt:=rfl;have hq:∀a b,¬(a=x/\b=y)->(s.pG x y t l).q a b=s.q a b:=λa b e=>fL s l e;have o:(s.pG x y t l).q x y=l:=fX s x y l;have a0:(s.pG x y t l).T t=(s.T t).to x y:=df _ _ _;have hT:∀u,u≠t->(s.pG x y t l).T u=s.T u:=λu e=>dP _ _ e;refine⟨λu Y a b i=>?_,λa b W u Y=>?_,λa b W=>?_,h.d⟩
 .by_cases e:u=t
  .subst e;rw[a0]at i;injection i with i;injection i with h1 J;subst h1 J;exact⟨(fQ hn).2 hl,by rw[o];exact(hm u).2 (ab rfl),a1⟩
  rw[hT u e]at i;obtain⟨k1,k2,k3⟩:=h.a u ((eg hn).1 Y) a b i;refine⟨(fQ hn).2 k1,?_,k3⟩;by_cases H:a=x/\b=y
  .obtain⟨rfl,rfl⟩:=H;rw[o];exact(hm u).2 (ag k2)
  rw[hq a b H];exact k2
 .have G:=(fQ hn).1 W;by_cases H:a=x/\b=y
  .obtain⟨rfl,rfl⟩:=H;rw[o]at Y;rcases(hm u).1 Y with h1|rfl
   .have Z:=h.b a b G u h1;have e:u≠t:=λe=>by
     subst e;have J:=Z.2;rw[hw]at J
     cases J
    rw[hT u e];exact Z
   refine⟨ht,?_⟩;rw[a0];rfl
  rw[hq a b H]at Y;have Z:=h.b a b G u Y;have e:u≠t:=λe=>by
   subst e;have J:=Z.2;rw[hw]at J
   cases J
  rw[hT u e];exact Z
 have G:=(fQ hn).1 W;by_cases H:a=x/\b=y
 .obtain⟨rfl,rfl⟩:=H;rw[o];exact hd
 rw[hq a b H];exact h.c a b G
theorem LW.into{s:Pl}(h:LW s){x y t:Nat}{l:List Nat}(ht:fe s t)(G:fz s x y)(e:¬(x=5/\y=t))(i:l.Nodup)(o:∀u,u∈l↔(u∈(s.dw t).q x y\/u=t)):LW (s.into x y t l):=
 (h.dw ht).pG ((eg (fO s t)).2 ht) (jd s t) ((fQ (fO s t)).2 G) e i o
theorem LW.out{s:Pl}(h:LW s){x y t:Nat}(i:fz s x y)(hw:(s.T t).wh≠some (x,y)):t∉s.q x y:=λe=>hw (h.b x y i t e).2
theorem oQ{l:List Nat}{t:Nat}(h:l.Nodup)(ht:t∉l):(l++[t]).Nodup:=by
 rw[List.nodup_append];refine⟨h,by simp,λa o b i=>?_⟩;simp at i;subst i;exact λe=>ht (e▸o)
theorem LW.dV{s:Pl}(h:LW s){x y t:Nat}(ht:fe s t)(H:fz s x y)(o:¬(x=5/\y=t)):LW (s.dV x y t):=by
 have G:=h.dw ht;have i:=(fQ (fO s t)).2 H;exact h.into ht H o (oQ (G.c x y i) (G.out i (by rw[jd];intro e;cases e))) (λu=>by simp)
theorem iX(s:Pl)(x y t:Nat):(s.dV x y t).nt=s.nt:=fO s t
theorem oh(s:Pl){x y t u:Nat}(h:u≠t):(s.dV x y t).T u=s.T u:=by
 rw[yM];exact(dP _ _ h).trans (sX s h)
theorem Df(s:Pl)(x y t u:Nat):((s.dV x y t).T u).fr=(s.T u).fr:=by
 by_cases e:u=t
 .subst e;show(((((s.dw u).eZ x y _).dv u _).T u).fr)=_;rw[df];exact ku s u u
 rw[oh s e]
theorem nO(s:Pl)(x y t:Nat):(s.dV x y t).T t=((s.dw t).T t).to x y:=df _ _ _
theorem xB(s:Pl)(x y t:Nat):((s.dV x y t).T t).wh=some (x,y):=by rw[nO];rfl
theorem gJ{s s':Pl}{t i:Nat}(h:(s'.T t).fr=(s.T t).fr):de s' t i=de s t i:=by unfold de;rw[h]
def WW(p:dz)(s:Pl):Prop:=∀t,fe s t->∀x y,(s.T t).wh=some (x,y)->(x=4\/x=5)->∃k,(s.T t).lf=some k/\(s.T t).fr≠[]/\k.2.1<p.rg (de s t ((s.T t).fr.length-1)).f
def cr(s:Pl)(t:Nat):Nat:=(s.T t).fr.length-1
def Pl.fJ(s:Pl)(t:Nat)(v:B.V):Pl:=match (s.T t).lf with
 | none=>s
 | some k=>(s.dx t (cr s t) ((de s t (cr s t)).set k.2.1 v)).dV 2 0 t
theorem nC(s:Pl){t i u:Nat}(f:gY)(h:u≠t):(s.dx t i f).T u=s.T u:=dP _ _ h
theorem gj(s:Pl)(t i u:Nat)(f:gY):((s.dx t i f).T u).wh=(s.T u).wh/\((s.dx t i f).T u).lf=(s.T u).lf/\((s.dx t i f).T u).run=(s.T u).run/\((s.dx t i f).T u).iL=(s.T u).iL/\((s.dx t i f).T u).fr.length=(s.T u).fr.length:=by
 by_cases e:u=t
 .subst e;unfold Pl.dx;rw[df];exact⟨rfl,rfl,rfl,rfl,dq⟩
 rw[nC s f e];exact⟨rfl,rfl,rfl,rfl,rfl⟩
theorem LW.dx{s:Pl}(h:LW s)(t i:Nat)(f:gY):LW (s.dx t i f):=h.same rfl rfl (λu=>(gj s t i u f).1)
theorem yj(s:Pl){t u:Nat}(v:B.V)(h:u≠t):(s.fJ t v).T u=s.T u:=by
 unfold Pl.fJ;split
 .rfl
 rw[oh _ h,nC _ _ h]
theorem mH(s:Pl)(t:Nat)(v:B.V):(s.fJ t v).nt=s.nt:=by
 unfold Pl.fJ;split
 .rfl
 rw[iX];rfl
theorem nT{s:Pl}{t:Nat}{k:Nat×Nat×Nat×Nat}(v:B.V)(h:(s.T t).lf=some k):s.fJ t v=(s.dx t (cr s t) ((de s t (cr s t)).set k.2.1 v)).dV 2 0 t:=by unfold Pl.fJ;rw[h]
theorem LW.fJ{s:Pl}(h:LW s){t:Nat}(ht:fe s t)(v:B.V):LW (s.fJ t v):=by
 unfold Pl.fJ;split
 .exact h
 exact(h.dx t _ _).dV ht (ag ⟨rfl,rfl⟩) (by omega)
theorem WW.fJ{p:dz}{s:Pl}(h:WW p s){t:Nat}(v:B.V)(H:(s.T t).lf≠none):WW p (s.fJ t v):=by
 intro u G x y i o;by_cases e:u=t
 .subst e;exfalso
  unfold Pl.fJ at i;split at i
  .rename_i J;exact H J
  rw[xB]at i;injection i with i;injection i with i _;omega
 rw[yj s v e]at i ⊢;have:=h u ((eg (mH s t v)).1 G) x y i o;rw[gJ (s:=s) (by rw[yj s v e])];exact this
theorem IF{p:dz}{s:Pl}{g:eE}{w:World}{t:Nat}{k:Nat×Nat×Nat×Nat}(v:B.V)(h:dQ p s g w)(hW:LW s)(ht:fe s t)(H:(s.T t).lf=some k)(o:(s.T t).fr≠[])(Y:k.2.1<p.rg (de s t (cr s t)).f)(u:(s.T t).wh≠some (2,0)): Calls prog 207 #[vA v,P0 (g.sx t)] w λe w'=>e=.returned (.tuple #[])/\∃r,Tr p s g w (s.fJ t v) (g.at 2 0 r) w':=by
 have W:(s.T t).fr.length≠0:=λe=>o (cf.1 e);have hi:cr s t<(s.T t).fr.length:=by unfold cr;omega
 refine IG k.1 k.2.1 k.2.2.1 k.2.2.2 (g.fb t (cr s t)) (g.tb t) p.eb (g.sx t) _ _ _ _ _ _ (de s t (cr s t)).R v (λw2=>∃r,Tr p s g w (s.fJ t v) (g.at 2 0 r) w2) w (h.sx ht H) (h.fr ht hi) (h.rg ht hi) Y h.E.lt ?_;intro w1 i G;have J:Tr p s g w (s.dx t (cr s t) ((de s t (cr s t)).set k.2.1 v)) g w1:=
  h.Lo ht hi (cm i (h.fr ht hi) (by intro e;injection e with e;exact DE h ht hi e)) G (jg i (ab rfl))
 refine(xA (x:=2) (y:=0) J.r (hW.dx _ _ _) (ag ⟨rfl,rfl⟩) ht (by omega) (by rw[(gj s t _ t _).1];exact u)).mono ?_;rintro e w2 ⟨rfl,r,Z⟩;refine⟨rfl,r,?_⟩;rw[nT v H];exact J.trans Z
def Pl.wait(s:Pl)(x y t:Nat)(k:Nat×Nat×Nat×Nat):Pl:=(s.dV x y t).dv t (((s.dV x y t).T t).mW k)
end F
section
def x7(w:World)(xb tb:Nat)(v:B.V):Prop:=w.heap[xb]? = some (.cells #[P0 tb] 155 (0,0))/\w.heap[xb+1]? = some (.cells #[.int .i64 (v.1:Int),.int .i64 v.2] 149 (0,0))
theorem Hc(eb tb kind t n c:Nat)(x:Int)(v:B.V)(ad:Option Addr)(S1 S3:World->Prop)(S2:Value->World->Prop)(I:List Nat->World->Prop)(sx:Nat->Nat)(xs:List Nat)(w:World)(H1:∀w1,w.grownBy w1 none->x7 w1 w.heap.size tb v->Calls prog 133 #[P0 tb] w1 λe w2=>e=.returned (.tuple #[])/\S1 w2)(aF:∀w1,S1 w1->x7 w1 w.heap.size tb v/\(∃Tk,Full w1 tb 160 7 7 Tk)/\(w1.setCell ⟨tb,2,none⟩ (.bool false)).cell? ⟨eb,29,none⟩=some (.slice ad n c)/\eb<w1.heap.size)(H2:∀w1,S1 w1->Calls prog 209 #[.slice ad n c,Fv 210 #[P0 w.heap.size]] (w1.setCell ⟨tb,2,none⟩ (.bool false)) λe w2=>∃a' n' Z,e=.returned (.slice a' n' Z)/\S2 (.slice a' n' Z) w2)(aH:∀lv w2,S2 lv w2->x7 (w2.setCell ⟨eb,29,none⟩ lv) w.heap.size tb v/\(∃E,Full w2 eb 144 44 44 E)/\(w2.setCell ⟨eb,29,none⟩ lv).cell? ⟨tb,0,none⟩=some (.int .i64 (t:Int))/\tb<w2.heap.size)(H3:∀lv w2 G,S2 lv w2->(w2.setCell ⟨eb,29,none⟩ lv).grownBy G none->Calls prog 211 #[P0 eb,.int .i64 (t:Int),vA v] G λe i=>e=.returned (.tuple #[])/\S3 i)(a8:∀G,S3 G->x7 G w.heap.size tb v)(H4:∀G,S3 G->Calls prog 173 #[P0 eb,.int .i64 kind,P0 tb,.int .i64 x] G λe i=>e=.returned (.tuple #[])/\I xs i)(hI:∀ys i,I ys i->x7 i w.heap.size tb v/\tb<i.heap.size/\(∀Y,i.grownBy Y none->I ys Y)/\(ys=[]->∃a' Z,i.cell? ⟨tb,6,none⟩=some (.slice a' 0 Z))/\(∀y r,ys=y :: r->∃q Z,i.cell? ⟨tb,6,none⟩=some (.slice (some ⟨q,0,none⟩) (r.length+1) Z)/\i.cell? ⟨q,0,none⟩=some (P0 y)/\i.cell? ⟨y,4,none⟩=some (Fv 207 #[P0 (sx y)])/\y<i.heap.size))(HL:∀y r i,I (y :: r) i->Calls prog 207 #[vA v,P0 (sx y)] i λe Y=>e=.returned (.tuple #[])/\I r Y): Calls prog 175 #[P0 eb,P0 tb,vA v,.int .i64 kind,.int .i64 x] w λe w'=>e=.returned (.tuple #[])/\I [] w':=by
 have K1:=az H1;have aM:=az aF;have K2:=az H2;have aV:=az aH;have K3:=az H3;have aW:=az a8;have K4:=az H4;have KI:=az hI;have KL:=az HL;clear H1 aF H2 aH H3 a8 H4 hI HL;obtain⟨v1,v2⟩:=v;go_in;go_wp2_with fail
 generalize a4:(w.alloc (.cells #[P0 tb] 155)).alloc (.cells #[.int .i64 (v1:Int),.int .i64 v2] 149)=w1;have aA:w.grownBy w1 none:=by rw[<-a4];exact au (au (ax _ _) _) _
 have aG:x7 w1 w.heap.size tb (v1,v2):=by
  rw[<-a4];constructor
  .rw[ak _ _ _ (by simp)];exact bf _ _
  have h1:=bf (w.alloc (.cells #[P0 tb] 155)) (.cells #[.int .i64 (v1:Int),.int .i64 v2] 149);have h2:(w.alloc (.cells #[P0 tb] 155)).heap.size=w.heap.size+1:=by simp
  rw[h2]at h1;exact h1
 have KX:=az (K1.out w1 aA aG);clear a4 aA aG;refine KX.out.mono ?_;rintro e w2 ⟨rfl,a1⟩;obtain⟨a7,⟨Tk,hT⟩,b9,b6⟩:=aM.out w2 a1;have x0:w2.cell? ⟨w.heap.size,0,none⟩=some (P0 tb):=by simp[World.cell?,a7.1]
 obtain⟨t2,z2⟩:=hT.cells 2 (by omega);generalize Tk 2=y2 at t2;have aR:=az a1;clear a1 a7 hT;go_wp2_with fail
 refine(K2.out w2 aR.out).mono ?_;rintro e G ⟨a',n',Z,rfl,a3⟩;obtain⟨aE,⟨E3,a0⟩,b3,aN⟩:=aV.out _ G a3;obtain⟨aI,aO⟩:=a0.cells 29 (by omega);generalize E3 29=b4 at aI;have aU:=az a3;have J:=az aE;clear a3 a0 aE x0 t2 z2;go_wp2_with fail
 generalize a5:G.setCell ⟨eb,29,none⟩ (.slice a' n' Z)=i at *;have aP:i.heap.size=G.heap.size:=by rw[<-a5];simp[World.setCell]
 have x0:i.cell? ⟨w.heap.size,0,none⟩=some (P0 tb):=by simp[World.cell?,J.out.1]
 have x1:i.cell? ⟨w.heap.size+1,0,none⟩=some (.int .i64 (v1:Int)):=by simp[World.cell?,J.out.2]
 have x2:i.cell? ⟨w.heap.size+1,1,none⟩=some (.int .i64 v2):=by simp[World.cell?,J.out.2]
 have aL:Hid (∀Y,i.grownBy Y none->Calls prog 211 #[P0 eb,.int .i64 (t:Int),vA (v1,v2)] Y λe w6=>e=.returned (.tuple #[])/\S3 w6):=λY hg=>K3.out _ G Y aU.out (by rw[a5];exact hg);clear a5 aP aI aO aN;go_wp2_with fail
 go_cut [] (λwx=>Hid (S3 wx))
 case first=>
  go_region_with (go_at_call 211;refine(aL.out i.drew (bq (ax _ _))).mono ?_;rintro e w6 ⟨rfl,aB⟩;have W:=az aB;clear aB)
  all_goals
   go_wp2_with fail
   go_meet
   case rel=>exact W
 case rest=>
  have W:=hcut;have a6:=aW.out wc W.out;have q0:wc.cell? ⟨w.heap.size,0,none⟩=some (P0 tb):=by simp[World.cell?,a6.1]
  clear a6;go_wp2_with fail
  refine(K4.out wc W.out).mono ?_;rintro e w6 ⟨rfl,aD⟩;have aC:=az aD;clear aD q0 x0 x1 x2;go_wp2_with fail
  go_loopg [] (xs.length) (λn wr=>∃ys:List Nat,ys.length=n/\Hid (I ys wr))
  case atStart=>exact⟨xs,rfl,aC⟩
  case round=>
   obtain⟨ys,aK,rI⟩:=hrel;obtain⟨H,b5,a9,u,o⟩:=KI.out ys wr rI.out;have q0:wr.cell? ⟨w.heap.size,0,none⟩=some (P0 tb):=by simp[World.cell?,H.1]
   have q1:wr.cell? ⟨w.heap.size+1,0,none⟩=some (.int .i64 (v1:Int)):=by simp[World.cell?,H.2]
   have q2:wr.cell? ⟨w.heap.size+1,1,none⟩=some (.int .i64 v2):=by simp[World.cell?,H.2]
   have lq:=bz H.1;have b7:=bz H.2;have aX:=az a9;clear H a9 aC
   cases ys with
   | nil=>
    obtain⟨a2,c2,c6⟩:=u rfl;have hE:=gP tb 6 0 c2 a2 wr c6;simp only[decide_true]at hE;have HE:=az hE;clear hE u o;go_wp2_with fail
    refine HE.out.mono ?_;rintro e w8 ⟨rfl,rfl⟩;go_wp2_with fail
    go_end0;exact⟨rfl,rI.out⟩
   | cons y r=>
    obtain⟨q,c2,c6,cq,c4,ly⟩:=o y r rfl;have hE:=gP tb 6 (r.length+1) c2 (some ⟨q,0,none⟩) wr c6;have hd:decide ((r.length+1:Nat)=0)=false:=by simp
    rw[hd]at hE;have HE:=az hE;have aQ:=az (λ(w':World) (h:w'.cell? ⟨tb,6,none⟩=some (.slice (some ⟨q,0,none⟩) (r.length+1) c2)) (h2:w'.cell? ⟨q,0,none⟩=some (P0 y))=>qq tb 6 r.length c2 q y w' h h2);have aY:=az (λ(w':World) (hg:wr.grownBy w' none)=>KL.out y r w' (aX.out w' hg));clear hE hd u o;go_wp2_with fail
    refine HE.out.mono ?_;rintro e w8 ⟨rfl,rfl⟩;go_wp2_with fail
    go_region_with (first|(go_at_call 132;refine(aQ.out _ ?_ ?_).mono ?_;exact c6;exact cq;rintro e w9 ⟨rfl,rfl⟩)|(go_at_call 207;refine(aY.out w8.drew (bq (ax _ _))).mono ?_;rintro e w9 ⟨rfl,aJ⟩;have aT:=az aJ;clear aJ))
    all_goals
     go_wp2_with fail
     go_roundg (r.length)
     case measure=>first|omega|(simp at aK;omega)
     case rel=>exact⟨r,rfl,aT⟩
theorem zX(x tb G:Nat)(w:World)(h:w.cell? ⟨G,0,none⟩=some (P0 tb))(W:jB w tb 160 7)(hX:jB w x 160 7): Calls prog 210 #[P0 x,P0 G] w λe w'=>e=.returned (.bool (decide (x=tb)))/\w'=w:=by
 obtain⟨i0,hi,Y,o,H⟩:=info_parts Tryz.Ad;by_cases i:x=tb
 .subst i;have J:=λ(w:World)=>run_eql_ptr_same (P:=prog) (w:=w) (tp:=155) (te:=160) ⟨x,0,none⟩ underlying155 hi;go_in;go_wp2_with fail
  go_ret;exact⟨by simp,rfl⟩
 obtain⟨ct,bt,_⟩:=W;obtain⟨Z,u,_⟩:=hX;have y:=run_eql_ptr_other (P:=prog) (w:=w) (tp:=155) (te:=160) (a:=⟨x,0,none⟩) (b:=⟨tb,0,none⟩) underlying155 hi (by rw[o];decide) (by intro e;injection e with e;exact i e) u bt;go_in;go_wp2_with fail
 go_ret;exact⟨by simp[i],rfl⟩
theorem I2(g c n tb Y:Nat)(xs:List Nat)(w:World)(hn:n=xs.length)(a0:n<=1000000000)(Z:∀j x,xs[j]? = some x->w.cell? ⟨g,j,none⟩=some (P0 x))(hx:w.cell? ⟨Y,0,none⟩=some (P0 tb))(hT:jB w tb 160 7)(hX:∀x,x∈xs->jB w x 160 7)(hm:tb∈xs): Calls prog 205 #[.slice (some ⟨g,0,none⟩) n c,Fv 210 #[P0 Y]] w λe w'=>e=.returned (.int .i64 (xs.idxOf tb:Nat))/\w'=w:=by
 have W:=List.idxOf_lt_length_of_mem hm;have HC:=az Z;have HT:=az hT;have HX:=az hX;have HL:=az W;have HN:=az hn;have HB:=az hx;clear Z hT hX W hm hn hx;go_in;go_wp2_with fail
 go_loopw [8] (λi wr=>∃j:Nat,i=.int .i64 j/\j<=xs.idxOf tb/\wr=w) (λi _=>xs.idxOf tb-(intOf i).toNat)
 case atStart=>exact⟨0,rfl,by omega,rfl⟩
 case round=>
  obtain⟨j,rfl,hj,rfl⟩:=hrel;have a1:j<n:=by have:=HL.out;have:=HN.out;omega
  obtain⟨x,hx⟩:∃x,xs[j]? = some x:=⟨_,bn (by have:=HN.out;omega)⟩;have cj:=HC.out j x hx;have H:=zX x tb Y wr HB.out HT.out (HX.out x (ed hx));have J:=az H;clear H;by_cases y:j=xs.idxOf tb
  .have o:x=tb:=by
    have:=List.getElem_idxOf (x:=tb) HL.out;rw[bu]at hx;obtain⟨h1,h2⟩:=hx;subst y;rw[<-h2];exact this
   have HJ:=az y;have u:=az o;clear y o;go_wp2_with fail
   refine J.out.mono ?_;rintro e w1 ⟨rfl,rfl⟩;have G:decide (x=tb)=true:=by simpa using u.out
   simp only[G];clear G;go_wp2_with fail
   go_ret;exact⟨by simp[HJ.out],rfl⟩
  have o:x≠tb:=by
   intro e;subst e;have a2:=qm xs x j hx;omega
  have u:=az o;clear o;go_wp2_with fail
  refine J.out.mono ?_;rintro e w1 ⟨rfl,rfl⟩;have G:decide (x=tb)=false:=by simpa using u.out
  simp only[G];clear G;go_wp2_with fail
  go_roundw
  case rel=>exact⟨j+1,by go_num,by omega,trivial⟩
  case measure=>simp[intOf];omega
def LP(w wr:World)(g c ix j:Nat)(xs:List Nat):Prop:=
 jB wr g 155 c/\w.grownBy wr (some g)/\(∀p x,p+1<j->(xs.eraseIdx ix)[p]? = some x->wr.cell? ⟨g,p,none⟩=some (P0 x))/\(∀p x,j<=p->xs[p]? = some x->wr.cell? ⟨g,p,none⟩=some (P0 x))
theorem I9(g c n tb xb:Nat)(xs:List Nat)(w:World)(a1:w.ownsRow 0 155 1 (.slice (some ⟨g,0,none⟩) n c) n (xs.map P0))(aL:n<=1000000000)(aD:xs.Nodup)(hx:w.cell? ⟨xb,0,none⟩=some (P0 tb))(lx:xb<w.heap.size)(ng:xb≠g)(hT:jB w tb 160 7)(hX:∀x,x∈xs->jB w x 160 7)(hm:tb∈xs): Calls prog 209 #[.slice (some ⟨g,0,none⟩) n c,Fv 210 #[P0 xb]] w λe w'=>e=.returned (.slice (some ⟨g,0,none⟩) (n-1) c)/\w'.ownsRow 0 155 1 (.slice (some ⟨g,0,none⟩) (n-1) c) (n-1) ((xs.erase tb).map P0)/\w.grownBy w' (some g):=by
 obtain⟨hb,hc,a4,hl,hB,G⟩:=iG a1;have W:xs.length=n:=by simpa using hl
 have a0:∀j x,xs[j]? = some x->w.cell? ⟨g,j,none⟩=some (P0 x):=λj x h=>G j (P0 x) (by simp[h]);have aS:xs.idxOf tb<n:=by rw[<-W];exact List.idxOf_lt_length_of_mem hm
 have aM:=az (I2 g c n tb xb xs w W.symm aL a0 hx hT hX hm);have a8:tb≠g:=by
  rintro rfl;obtain⟨c1,Z,_⟩:=hT;obtain⟨c2,o,_⟩:=hB;rw[Z]at o;injection o with o;injection o with _ o _;exact ch o (by decide)
 have aC:∀x,x∈xs->x≠g:=λx Y=>by
  rintro rfl;obtain⟨c1,Z,_⟩:=hX x Y;obtain⟨c2,o,_⟩:=hB;rw[Z]at o;injection o with o;injection o with _ o _;exact ch o (by decide)
 have aH:Hid (∀wr,w.grownBy wr (some g)->∀x,x∈xs->Calls prog 210 #[P0 x,P0 xb] wr λe w'=>e=.returned (.bool (decide (x=tb)))/\w'=wr):=λwr a2 x Y=>by
  refine zX x tb xb wr ?_ ?_ ?_
  .simp only[World.cell?]at hx ⊢;rw[a2.block xb lx (by intro e;injection e with e;exact ng e)];exact hx
  .obtain⟨c1,Z,o⟩:=hT;exact⟨c1,(a2.block tb (bz Z) (by intro e;injection e with e;exact a8 e)).trans Z,o⟩
  obtain⟨c1,Z,o⟩:=hX x Y;exact⟨c1,(a2.block x (bz Z) (by intro e;injection e with e;exact aC x Y e)).trans Z,o⟩
 have a6:∀j,xs.idxOf tb<j->∀x,xs[j]? = some x->x≠tb:=λj hj x aN e=>by
  subst e;obtain⟨h1,h2⟩:=bu.1 aN;have:=(List.getElem_inj (h₀:=h1) (h₁:=List.idxOf_lt_length_of_mem hm) aD).1 (h2.trans (List.getElem_idxOf (x:=x) (List.idxOf_lt_length_of_mem hm)).symm);omega
 obtain⟨i0,hi,a9,aG,aE⟩:=info_parts Tryz.rA;have hv:∀w,(zeroValue 155).run prog w=.ok (.pointer none) w:=by intro w;simp[zeroValue,typeInfo,hi,a9]
 have a7:Hid (∀(ty:TypeId) (w1:World) (c':Nat),jB w1 g 155 c->(Builtin.clear_ #[136] ty #[.slice (some ⟨g,n-1,none⟩) 1 c']).run prog w1=.ok (.tuple #[]) (w1.setCell ⟨g,n-1,none⟩ (.pointer none))):=by
  intro ty w1 c' aA;refine Go.Lib.run_clear_slice (P:=prog) w1 136 155 ty (.pointer none) underlying136 hv rfl rfl g (n-1) 1 c' (by omega) ?_ ?_
  .intro j hj;obtain⟨⟨v,h⟩,_⟩:=aA.cell (n-1+j) (by omega);rw[h];rfl
  intro j hj;exact(aA.cell (n-1+j) (by omega)).2
 have KD:Hid (LP w w g c (xs.idxOf tb) (xs.idxOf tb+1) xs):=⟨hB,ax _ _,λp x hp hx=>by
   rw[List.getElem?_eraseIdx_of_lt (by omega)]at hx;exact a0 p x hx,λp x _ hx=>a0 p x hx⟩
 have aT:(n:Int)<=(c:Int):=by omega
 have aJ:=az a6;have aI:=az a4;have u:=az W;have a3:=az (qt xs tb);clear a1 hl G a0 hx hT hX hm hB a4 a8 aC a6 aD hv hi a9 aG aE i0;generalize xs.idxOf tb=ix at *;go_in;go_wp2_with fail
 refine aM.out.mono ?_;rintro e w1 ⟨rfl,rfl⟩;go_wp2_with fail
 have a5:((ix:Int) == -1)=false:=by rw[dK];omega
 try rw[a5]
 try simp only[a5]
 clear a5;go_loopw [5,6] (λi j wr=>∃J:Nat,i=.int .i64 (J:Nat)/\j=.int .i64 ((J:Int)+1)/\ix<=J/\J+1<=n/\Hid (LP w1 wr g c ix (J+1) xs)) (λ_ j _=>n-(intOf j).toNat)
 case atStart=>exact⟨ix,rfl,by go_num,by omega,by omega,KD⟩
 case round=>
  obtain⟨J,rfl,rfl,aV,aR,rD⟩:=hrel;obtain⟨dB,dG,d1,d2⟩:=rD.out;by_cases aQ:J+1<n
  .have aB:(J:Int)+1<(n:Int):=by omega
   obtain⟨x,hx⟩:∃x,xs[J+1]? = some x:=⟨_,bn (by omega)⟩;have cj:=d2 (J+1) x (bj _) hx;have H:=aH.out wr dG x (ed hx);have hd:decide (x=tb)=false:=by simpa using aJ.out (J+1) (by omega) x hx
   rw[hd]at H;have aF:=az H;obtain⟨⟨y,cJ⟩,zJ⟩:=dB.cell J (by omega);have lg:=dB.lt;have aO:=az hx;clear H hd hx dB dG d1 d2;go_wp2_with fail
   refine aF.out.mono ?_;rintro e w2 ⟨rfl,rfl⟩;have aP:Hid (LP w1 (w2.setCell ⟨g,J,none⟩ (P0 x)) g c ix (J+2) xs):=by
    obtain⟨dB,dG,d1,d2⟩:=rD.out;refine⟨dB.set g J _,bp dG (ag rfl) _,λp z hp hz=>?_,λp z hp hz=>?_⟩
    .by_cases aK:p=J
     .subst aK;rw[List.getElem?_eraseIdx_of_ge (by omega)]at hz;rw[aO.out]at hz;injection hz with hz;subst hz;exact World.cell?_setCell_same _ _ _ cJ
     rw[dF _ _ _ _ (by intro e;injection e with _ e;omega)];exact d1 p z (by omega) hz
    rw[dF _ _ _ _ (by intro e;injection e with _ e;omega)];exact d2 p z (by omega) hz
   go_wp2_with fail
   go_roundw
   case rel=>exact⟨J+1,by go_num,by go_num,by omega,by omega,aP⟩
   case measure=>simp[intOf];omega
  have aB:¬(J:Int)+1<(n:Int):=by omega
  obtain rfl:n=J+1:=by omega
  have cl:∀(ty:TypeId) (c':Nat),(Builtin.clear_ #[136] ty #[.slice (some ⟨g,J,none⟩) 1 c']).run prog wr=.ok (.tuple #[]) (wr.setCell ⟨g,J,none⟩ (.pointer none)):=λty c'=>a7.out ty wr c' dB;clear dB dG d1 d2;go_wp2_with fail
  go_ret;obtain⟨dB,dG,d1,d2⟩:=rD.out;refine⟨rfl,qf (dc _) (by omega) aI.out ?_ (dB.set g J _) (λj y hy=>?_),bp dG (ag rfl) _⟩
  .rw[dS,<-a3.out,List.length_eraseIdx,aj (by rw[u.out];omega),u.out];omega
  have hj:j<J:=by
   have:=(bu.1 hy).1;rw[dS,<-a3.out,List.length_eraseIdx,aj (by rw[u.out];omega),u.out]at this;omega
  rw[eo]at hy;obtain⟨z,hz,rfl⟩:=Option.map_eq_some_iff.1 hy;rw[dF _ _ _ _ (by intro e;injection e with _ e;omega)];exact d1 j z (by omega) (by rw[a3.out];exact hz)
end
end Go.Proofs.YtnjiinbhbjpfkaaGreatDoor
