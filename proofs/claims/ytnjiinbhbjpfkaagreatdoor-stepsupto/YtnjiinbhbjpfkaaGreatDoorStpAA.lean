import Derived.Test.YtnjiinbhbjpfkaaGreatDoorStpZ
set_option maxRecDepth 100000
set_option maxHeartbeats 0
set_option linter.all false
namespace Go.Proofs.YtnjiinbhbjpfkaaGreatDoor
open Go.RowKit Go.Proofs.Tryz
namespace F
theorem gX(a:Addr)(m:Nat):(a.add m).block=a.block:=by unfold Addr.add;split<;>rfl
def Kk(w:World)(ad:Option Addr)(n:Nat)(l:List (Int×Nat))(F:Nat->Prop):Prop:=
 n=l.length/\n<=1000000000/\l=[]/\(ad=none->l=[])/\∀a,ad=some a->l≠[]->a.block<w.heap.size/\¬F a.block/\∀j x,l[j]? = some x->w.cell? (a.add (j*2))=some (.int .i64 x.1)/\w.cell? (a.add (j*2+1))=some (.int .u8 (x.2:Int))
theorem GU{p:dz}{s:Pl}{g:eE}{w:World}{ad:Option Addr}{n:Nat}(c:Nat){l:List (Int×Nat)}(h:dQ p s g w)(hO:Ok p s)(hI:Kk w ad n l (ey p s g)): Calls prog 65 #[P0 p.eb,.slice ad n c] w λe w'=>e=.returned (.tuple #[])/\∃g',Tr p s g w (s.eN l) g' w':=by
 obtain⟨hn,G,J,Y,hC⟩:=hI;refine(Cx p.eb ad n c l (λys w1=>∃s1 g1,Tr p s g w s1 g1 w1/\Ok p s1/\s1.eN ys=s.eN l/\ys=[]) w ⟨s,g,Tr.refl h,hO,rfl,J⟩ hn G Y ?_ ?_ ?_ ?_ ?_).mono ?_
 .rintro ys w1 ⟨s1,g1,k1,k2,i,_⟩ a rfl j x H
  obtain⟨Z,b2,W⟩:=hC a rfl (λe=>by rw[e]at H;simp at H);have e:=k1.o.same Z b2;obtain⟨c0,c1⟩:=W j x H;exact⟨(aw (a:=a.add (j*2)) (by rw[gX];exact e)).trans c0,(aw (a:=a.add (j*2+1)) (by rw[gX];exact e)).trans c1⟩
 .rintro ys w1 w2 ⟨s1,g1,k1,k2,i⟩ hg;exact⟨s1,g1,k1.kept hg,k2,i⟩
 .rintro ys w1 ⟨s1,g1,k1,_⟩;exact k1.r.E.lt
 .rintro x r w1 ⟨_,_,_,_,_,y⟩ _
  cases y
 .rintro x r w1 ⟨_,_,_,_,_,y⟩ _
  cases y
 rintro e w' ⟨rfl,s1,g1,k1,k2,i,_⟩;refine⟨rfl,g1,?_⟩;rw[<-i];exact k1
structure tN(p:dz) (s:Pl) (g:eE) (mb:Nat) (w:World):Prop where
 r:dQ p s g w
 ok:Ok p s
 ev:s.ev=[]
 bx:∃x,w.heap[mb]? = some (.cells #[.int .i32 0,x,P0 p.eb] 105 (0,0))
 nm:¬ey p s g mb
structure J3(p:dz):Prop where
 pw:PW p
 pi:PI p
 q:p.qn<=50
 k:p.wk<=50
section
variable {p : dz} {s : Pl} {g : eE} {mb : Nat} {w : World} (h : tN p s g mb w)
include h
theorem tN.cells:w.cell? ⟨mb,0,none⟩=some (.int .i32 0)/\w.frozen? ⟨mb,0,none⟩=false/\w.cell? ⟨mb,2,none⟩=some (P0 p.eb)/\mb<w.heap.size:=by
 obtain⟨x,e⟩:=h.bx;exact⟨by simp[World.cell?,e],by simp[World.frozen?,e],by simp[World.cell?,e],bz e⟩
theorem tN.lock:dQ p s g (w.setCell ⟨mb,0,none⟩ (.int .i32 1)):=h.r.only (S:=λk=>k=mb) (bm (S:=λk=>k=mb) (dk _ _) (ag rfl) _) (λ_ i e=>h.nm (e▸i))
theorem tN.qD{w':World}(i:w'.heap[mb]? = (w.setCell ⟨mb,0,none⟩ (.int .i32 1)).heap[mb]?):w'.cell? ⟨mb,0,none⟩=some (.int .i32 1)/\w'.frozen? ⟨mb,0,none⟩=false/\∃x,(w'.setCell ⟨mb,0,none⟩ (.int .i32 0)).heap[mb]? = some (.cells #[.int .i32 0,x,P0 p.eb] 105 (0,0)):=by
 obtain⟨x,o⟩:=h.bx;have y:(w.setCell ⟨mb,0,none⟩ (.int .i32 1)).heap[mb]? = some (.cells #[.int .i32 1,x,P0 p.eb] 105 (0,0)):=by
  simp[World.setCell,cn,o]
 rw[y]at i;refine⟨by simp[World.cell?,i],by simp[World.frozen?,i],x,?_⟩;simp[World.setCell,cn,i]
end
theorem dQ.off{p:dz}{s:Pl}{g:eE}{w:World}{mb:Nat}(h:dQ p s g w)(hn:¬ey p s g mb)(o:Nat)(v:Value):dQ p s g (w.setCell ⟨mb,o,none⟩ v):=h.only (S:=λk=>k=mb) (bm (S:=λk=>k=mb) (dk _ _) (ag rfl) _) (λ_ i e=>hn (e▸i))
structure zh(p:dz) (s:Pl) (g:eE) (mb:Nat) (w:World) (s':Pl) (g':eE) (w':World):Prop where
 m:tN p s' g' mb w'
 o:dy (λk=>ey p s g k\/k=mb) w w'
 n:∀k,ey p s' g' k->ey p s g k\/w.heap.size<=k
theorem tN.BW{p:dz}{s:Pl}{g:eE}{mb:Nat}{w:World}{ad:Option Addr}{n:Nat}(c:Nat){l:List (Int×Nat)}(ticks:Int)(h:tN p s g mb w)(hP:J3 p)(hn:s.nt+p.qn<=500000000)(hI:Kk w ad n l (λk=>ey p s g k\/k=mb)): Calls prog 24 #[P0 mb,.int .i64 ticks,.slice ad n c] w λe w'=>∃s' g' G Y,e=.returned (.slice G s'.ev.length Y)/\jh p s ticks l s'/\w'.ownsRow 0 48 3 (.slice G s'.ev.length Y) s'.ev.length (kE s'.ev)/\zh p s g mb w s'.lD g' w'/\∀k,eO G=some k->¬ey p s'.lD g' k/\k≠mb/\k<w'.heap.size/\(ey p s g k\/w.heap.size<=k):=by
 obtain⟨c0,f0,c2,lm⟩:=h.cells;obtain⟨i1,i2,i3,i4,i5⟩:=hI;have Z:dy (λk=>ey p s g k\/k=mb) w (w.setCell ⟨mb,0,none⟩ (.int .i32 1)):=bm (S:=λk=>ey p s g k\/k=mb) (dk _ _) (ag (ab rfl)) _;have i:(w.setCell ⟨mb,0,none⟩ (.int .i32 1)).heap.size=w.heap.size:=by simp[World.setCell]
 refine(yl mb p.eb n c ad ticks w c0 f0 c2 (λv w'=>∃s',jh p s ticks l s'/\vW p s g (w.setCell ⟨mb,0,none⟩ (.int .i32 1)) s' w' v) ?_).mono ?_
 .refine(DG (l:=l) ticks h.lock hP.pw hP.pi h.ok h.ev hn hP.q hP.k (qj i3) (λs1 g1 w1 H a5=>?_)).mono ?_
  .refine GU c H.r a5 ⟨i1,i2,i3,i4,λa ha a4=>?_⟩;obtain⟨b1,b2,b3⟩:=i5 a ha a4;have e1:=(H.o.same (by rw[i];exact b1) (λhm=>b2 (ag hm))).trans (Z.same b1 b2);refine⟨dm (by rw[i];exact b1) H.o.size,λhm=>?_,λj x hj=>?_⟩
   .rcases H.m _ hm with y|y
    .exact b2 (ag y)
    rw[i]at y;omega
   obtain⟨d0,d1⟩:=b3 j x hj;exact⟨(aw (a:=a.add (j*2)) (by rw[gX];exact e1)).trans d0,(aw (a:=a.add (j*2+1)) (by rw[gX];exact e1)).trans d1⟩
  rintro e w' ⟨v,s',rfl,ht,g',G,Y,rfl,k2,J,k4⟩;have hb:=J.o.same (by rw[i];exact lm) h.nm;obtain⟨l1,l2,_⟩:=h.qD hb;exact⟨G,_,Y,rfl,l1,l2,s',ht,g',G,Y,rfl,k2,J,k4⟩
 rintro e w' ⟨v,w1,rfl,⟨s',ht,g',G,Y,rfl,k2,J,k4⟩,rfl⟩;have hb:=J.o.same (by rw[i];exact lm) h.nm;obtain⟨_,_,l3⟩:=h.qD hb;have a0:¬ey p s'.lD g' mb:=λhm=>(J.m mb hm).elim h.nm (λy=>by rw[i]at y;omega);have a1:∀k,eO G=some k->k≠mb:=λk u e=>by
  have W:=dA k2 k (by rw[dr];exact u);have a2:=hb;obtain⟨x0,a3⟩:=h.bx;have y:(w.setCell ⟨mb,0,none⟩ (.int .i32 1)).heap[mb]? = some (.cells #[.int .i32 1,x0,P0 p.eb] 105 (0,0)):=by simp[World.setCell,cn,a3]
  rw[y]at a2;rw[e]at W;obtain⟨_,_,q0⟩:=W;obtain⟨a6,q1⟩:=q0;rw[a2]at q1;injection q1 with q1;injection q1 with _ q2 _;exact ch q2 (by decide)
 refine⟨s',g',G,Y,rfl,ht,dD k2 (λk u=>af _ _ _ _ (a1 k (by rw[<-dr];exact u))),⟨⟨J.r.off a0 0 _,?_,rfl,l3,a0⟩,?_,λk u=>(J.m k u).imp id (λy=>by rw[i]at y;exact y)⟩,λk u=>⟨(k4 k u).1,a1 k u,by have:=(k4 k u).2.1;simpa[World.setCell] using this,by have:=(k4 k u).2.2;rw[i]at this;exact this⟩⟩
 .exact(nW hP.pi hP.pw.n1 h.ok h.ev hn (qj i3) ht).ok
 exact bm (Z.trans J.o (λk u _=>ag u)) (ag (ab rfl)) _
end F
namespace F
theorem GW{p:dz}{s:Pl}{g:eE}{w:World}(h:dQ p s g w)(hO:Ok p s): Calls prog 43 #[P0 p.eb] w λe w'=>e=.returned (.slice (some ⟨w.heap.size,0,none⟩) (s.q 2 0).length (s.q 2 0).length)/\w'.ownsRow w.heap.size 3 1 (.slice (some ⟨w.heap.size,0,none⟩) (s.q 2 0).length (s.q 2 0).length) (s.q 2 0).length ((s.q 2 0).map (λt:Nat=>Value.int .i64 (t:Int)))/\w.grownBy w' none:=by
 have hl:fz s 2 0:=ag ⟨rfl,rfl⟩;have a2:=hO.lw.len hl;have i:=λu y=>(hO.lw.b 2 0 hl u y).1;obtain⟨Y,W⟩:∃Y:Nat->Int,∀u,fe s u->Y (g.tb u)=(u:Int):=by
  classical
  refine⟨λb=>if H:∃u,fe s u/\g.tb u=b then(H.choose:Int) else 0,λu y=>?_⟩;have H:∃u',fe s u'/\g.tb u'=g.tb u:=⟨u,y,rfl⟩;show(if H:∃u',fe s u'/\g.tb u'=g.tb u then(H.choose:Int) else 0)=(u:Int);rw[dif_pos H,h.ny H.choose_spec.1 y H.choose_spec.2]
 have hL:=h.ln hl (by omega);have a0:w.cell? ⟨p.eb,32,none⟩=some (.slice (g.ro 2 0).1 (s.q 2 0).length (g.ro 2 0).2):=by
  have:=hL.hE.cell _ hL.ho;rw[hL.e]at this;exact this
 obtain⟨G,J⟩:∃G,s.q 2 0≠[]->(g.ro 2 0).1=some ⟨G,0,none⟩/\G<w.heap.size/\∀j x,((s.q 2 0).map g.tb)[j]? = some x->w.cell? ⟨G,j,none⟩=some (P0 x):=by
  by_cases e:s.q 2 0=[]
  .exact⟨0,λh=>ch e h⟩
  have hr:=hL.row;obtain⟨G,lc,he⟩:=dM hr (by exact λe'=>e (cf.1 e'));rw[he]at hr;injection he with a1 _ _;exact⟨G,λ_=>⟨a1,(dA hr G rfl).2.1,λj x o=>(iG hr).2.2.2.2.2 j (P0 x) (by rw[eo,o];rfl)⟩⟩
 have Z:∀{j:Nat} {x:Nat},((s.q 2 0).map g.tb)[j]? = some x->s.q 2 0≠[]:=λo e=>by rw[e]at o;simp at o
 refine(GX p.eb G (g.ro 2 0).2 (s.q 2 0).length (g.ro 2 0).1 Y ((s.q 2 0).map g.tb) w a0 h.E.lt (by rw[dS]) (by omega) (λj x o=>⟨(J (Z o)).1,(J (Z o)).2.2 j x o⟩) (λe=>(J (λe'=>e (by rw[e'];rfl))).2.1) (λx o=>?_)).mono ?_
 .obtain⟨u,y,rfl⟩:=ek.1 o;have hT:=h.tk (i u y);refine⟨?_,hT.lt⟩;rw[hT.cell 0 (by omega),W u (i u y)];rfl
 rintro e w' ⟨rfl,k1,k2⟩;refine⟨rfl,?_,k2⟩;have:((s.q 2 0).map g.tb).map (λx=>Value.int .i64 (Y x))=(s.q 2 0).map (λt:Nat=>Value.int .i64 (t:Int)):=by
  rw[List.map_map];refine List.map_congr_left (λu y=>?_);show Value.int .i64 (Y (g.tb u))=_;rw[W u (i u y)]
 rw[this]at k1;exact k1
theorem tN.queue{p:dz}{s:Pl}{g:eE}{mb:Nat}{w:World}(h:tN p s g mb w): Calls prog 26 #[P0 mb] w λe w'=>e=.returned (.slice (some ⟨w.heap.size,0,none⟩) (s.q 2 0).length (s.q 2 0).length)/\w'.ownsRow w.heap.size 3 1 (.slice (some ⟨w.heap.size,0,none⟩) (s.q 2 0).length (s.q 2 0).length) (s.q 2 0).length ((s.q 2 0).map (λt:Nat=>Value.int .i64 (t:Int)))/\zh p s g mb w s g w':=by
 obtain⟨c0,H,Y,G⟩:=h.cells;have i:(w.setCell ⟨mb,0,none⟩ (.int .i32 1)).heap.size=w.heap.size:=by simp[World.setCell]
 refine(yD mb p.eb w c0 H Y (λv w'=>v=.slice (some ⟨w.heap.size,0,none⟩) (s.q 2 0).length (s.q 2 0).length/\w'.ownsRow w.heap.size 3 1 (.slice (some ⟨w.heap.size,0,none⟩) (s.q 2 0).length (s.q 2 0).length) (s.q 2 0).length ((s.q 2 0).map (λt:Nat=>Value.int .i64 (t:Int)))/\(w.setCell ⟨mb,0,none⟩ (.int .i32 1)).grownBy w' none) ?_).mono ?_
 .have:=GW h.lock h.ok;rw[i]at this;refine this.mono ?_;rintro e w' ⟨rfl,k1,k2⟩;have y:=k2.block mb (by rw[i];exact G) (by intro e;cases e);obtain⟨W,J,_⟩:=h.qD y;exact⟨_,_,_,rfl,W,J,rfl,k1,k2⟩
 rintro e w' ⟨v,w1,rfl,⟨rfl,k1,k2⟩,rfl⟩;have y:=k2.block mb (by rw[i];exact G) (by intro e;cases e);obtain⟨_,_,Z⟩:=h.qD y;refine⟨rfl,dD k1 (λk o=>af _ _ _ _ ?_),⟨(h.lock.kept k2).off h.nm 0 _,h.ok,h.ev,Z,h.nm⟩,bm ((bm (S:=λk=>ey p s g k\/k=mb) (dk _ _) (ag (ab rfl)) _).gR k2) (ag (ab rfl)) _,λk o=>ag o⟩;have e:w.heap.size=k:=by injection o
 show k≠mb;omega
theorem DC{s : ByteArray} {f : Nat} : ∀ (n k0 : Nat), (M.fns s f (M.pos s k0) n).2 = true → ∀ k, k < n → (M.fn s (M.pos s (k0 + k)) f).2 = true
  | 0, _, _, k, hk => by omega
  | n + 1, k0, h, k, hk => by
    unfold M.fns at h
    by_cases e : (M.fn s (M.pos s k0) f).2 = true
    · rw [aj e]at h
      cases k with
      | zero => exact e
      | succ k =>
        have hp : (M.fn s (M.pos s k0) f).1 = M.pos s (k0 + 1) := (M.tw e).1
        rw [hp]at h
        have := DC n (k0 + 1) h k (by omega)
        rw [show k0 + (k + 1) = k0 + 1 + k by omega]
        exact this
    · rw [aa e]at h; cases h
theorem vM{s : ByteArray} {r f l : Nat} : ∀ (n p : Nat), (M.code s r f l p n).2 = true → ∀ i, i < n → (M.ins s (p + 4 * i) r f l).2 = true
  | 0, _, _, i, hi => by omega
  | n + 1, p, h, i, hi => by
    unfold M.code at h
    by_cases e : (M.ins s p r f l).2 = true
    · rw [aj e]at h
      cases i with
      | zero => exact e
      | succ i =>
        rw [M.vz e]at h
        have := vM n (p + 4) h i (by omega)
        rw [show p + 4 * (i + 1) = p + 4 + 4 * i by omega]
        exact this
    · rw [aa e]at h; cases h
def pH(s:ByteArray)(q:Nat):yi:=(M.bt s q,M.bt s (q+1),M.bt s (q+2),M.bt s (q+3))
theorem Le:∀e,e<23->e≠7/\e≠16->M.k0 e=114:=by decide
theorem Ld:∀e,e<23->(e=1\/(2<=e/\e<=6)\/e=10\/e=11)\/(e=13\/e=15\/e=18\/e=21)->M.k1 e=114:=by decide
theorem Lc:∀e,e<23->((2<=e/\e<=6)\/e=10\/e=11\/e=12\/e=13\/e=15)->M.k2 e=114:=by decide
theorem Lb:∀e,e<23->(e=7\/e=8)->M.k1 e=116:=by decide
theorem La:∀e,e<23->e=9->M.k1 e=115:=by decide
theorem K7:∀e,e<23->e=12->M.k1 e=102:=by decide
theorem K6:∀e,e<23->e≠7/\e≠8->M.k1 e≠116:=by decide
theorem E4(op:Nat)(h:op<23):(op≠7->op≠16->M.k0 op=114)/\(op=1\/(2<=op/\op<=6)\/op=10\/op=11\/op=13\/op=15\/op=18\/op=21->M.k1 op=114)/\((2<=op/\op<=6)\/op=10\/op=11\/op=12\/op=13\/op=15->M.k2 op=114)/\(op=7\/op=8->M.k1 op=116)/\(op=9->M.k1 op=115)/\(op=12->M.k1 op=102)/\(op≠7->op≠8->M.k1 op≠116):=
 ⟨λa b=>Le op h ⟨a,b⟩,λa=>Ld op h (by omega),Lc op h,Lb op h,La op h,K7 op h,λa b=>K6 op h ⟨a,b⟩⟩
theorem E7{s:ByteArray}{q r f l:Nat}(hT:N5 (M.bt s q))(hr:2<=r)(hf:1<=f)(h:(M.ins s q r f l).2=true){p:dz}{k:Nat}(e1:p.rg k=r)(e2:p.nf=f)(e3:p.len k=l):IA p k (pH s q):=by
 unfold M.ins at h;by_cases e:M.tk s q 0 22=true
 .rw[aj e]at h;have a2:=(M.fK e).2.2;have G:=M.my s;obtain⟨f0,f1,f2,f3,f4,f5,f6⟩:=E4 (M.bt s q) (by omega);unfold M.rz at h;by_cases Y:M.tk s (q+1) 0 (M.iQ r f (M.k0 (M.bt s q)))=true
  .rw[aj Y]at h;have g0:=(M.fK Y).2.2;have Z:M.bt s q≠7->M.bt s q≠16->M.bt s (q+1)<p.rg k:=λn7 W=>by
    rw[f0 n7 W]at g0;have:M.iQ r f 114=r-1:=rfl;omega
   by_cases o:M.k1 (M.bt s q)=116
   .rw[aj o]at h;have hj:=Classical.byContradiction λhn=>f6 (λe=>hn (ag e)) (λe=>hn (ab e)) o;unfold M.uQ at h;by_cases y:s.size<q+1+1+2
    .rw[aj y]at h;cases h
    rw[aa y]at h;by_cases H:l<256*M.bt s (q+1+1)+M.bt s (q+1+1+1)
    .rw[aj H]at h;cases h
    refine⟨by show M.bt s q<23;omega,G _,G _,G _,Z,λi=>?_,λi=>?_,λ_=>?_,λi=>?_,λi=>?_,hT⟩
    .have u:M.bt s q=1\/(2<=M.bt s q/\M.bt s q<=6)\/M.bt s q=10\/M.bt s q=11\/M.bt s q=13\/M.bt s q=15\/M.bt s q=18\/M.bt s q=21:=i;omega
    .have u:(2<=M.bt s q/\M.bt s q<=6)\/M.bt s q=10\/M.bt s q=11\/M.bt s q=12\/M.bt s q=13\/M.bt s q=15:=i;omega
    .show 256*M.bt s (q+2)+M.bt s (q+3)<=p.len k;rw[e3];exact Nat.le_of_not_lt H
    .have u:M.bt s q=9:=i;omega
    have u:M.bt s q=12:=i;omega
   rw[aa o]at h;by_cases y:M.tk s (q+1+1) 0 (M.iQ r f (M.k1 (M.bt s q)))=true
   .rw[aj y]at h;have g1:M.bt s (q+2)<=M.iQ r f (M.k1 (M.bt s q)):=(M.fK y).2.2;by_cases H:M.tk s (q+1+2) 0 (M.iQ r f (M.k2 (M.bt s q)))=true
    .have g2:M.bt s (q+3)<=M.iQ r f (M.k2 (M.bt s q)):=(M.fK H).2.2;have a4:M.iQ r f 114=r-1:=rfl;have a3:M.iQ r f 115=8:=rfl;have a1:M.iQ r f 102=f-1:=rfl;refine⟨by show M.bt s q<23;omega,G _,G _,G _,Z,λi=>?_,λi=>?_,λi=>ch i (λi=>o (f3 i)),λi=>?_,λi=>?_,hT⟩
     .show M.bt s (q+2)<p.rg k;rw[f1 i]at g1;omega
     .show M.bt s (q+3)<p.rg k;rw[f2 i]at g2;omega
     .show M.bt s (q+2)<=8;rw[f4 i]at g1;omega
     show M.bt s (q+2)<p.nf;rw[f5 i]at g1;omega
    rw[aa H]at h;cases h
   rw[aa y]at h;cases h
  rw[aa Y]at h;cases h
 rw[aa e]at h;cases h
theorem nJ{s:ByteArray}(h:(M.jO s).2=true):1<=M.bt s 0/\M.bt s 0<=8/\∀k,k<M.bt s 0->(M.fn s (M.pos s k) (M.bt s 0)).2=true:=by
 unfold M.jO at h;by_cases e:M.tk s 0 1 8=true
 .rw[aj e]at h;have i:=M.fK e;have o:((M.fns s (M.bt s 0) 1 (M.bt s 0)).2 && decide ((M.fns s (M.bt s 0) 1 (M.bt s 0)).1=s.size))=true:=h;rw[Bool.and_eq_true]at o;refine⟨i.2.1,i.2.2,λk u=>?_⟩;have:=DC (s:=s) (f:=M.bt s 0) (M.bt s 0) 0 o.1 k u;rw[Nat.zero_add]at this;exact this
 rw[aa e]at h;cases h
def Tm(s:ByteArray):Prop:=∀k i,k<M.bt s 0->i<M.bt s (M.pos s k+1)->N5 (M.bt s (M.pos s k+2+4*i))
theorem GZ{s:ByteArray}(hT:Tm s)(h:(M.jO s).2=true){p:dz}(Z:∀k,p.rg k=M.bt s (M.pos s k))(u:p.nf=M.bt s 0)(y:∀k,p.len k=M.bt s (M.pos s k+1))(J:∀k i,p.ins k i=pH s (M.pos s k+2+4*i)):PI p:=by
 obtain⟨G,n2,H⟩:=nJ h;intro f o i hi;rw[u]at o;rw[y]at hi;have e:=H f o;have W:(M.code s (M.bt s (M.pos s f)) (M.bt s 0) (M.bt s (M.pos s f+1)) (M.pos s f+2) (M.bt s (M.pos s f+1))).2=true:=by
  unfold M.fn at e;by_cases a:M.tk s (M.pos s f) 2 8=true
  .rw[aj a]at e;by_cases b:M.tk s (M.pos s f+1) 1 200=true
   .rw[aj b]at e;exact e
   rw[aa b]at e;cases e
  rw[aa a]at e;cases e
 rw[J];exact E7 (hT f i o hi) (M.tw e).2.1 G (vM _ _ W i hi) (Z f) u (y f)
end F
section
theorem mB.below{w w':World}(h:mB w)(i:Below w.heap.size w w'):mB w':=
 ⟨dm h.1 i.size,λe o=>(i.cell (p:=⟨0,e,none⟩) h.1).trans (h.2 e o)⟩
theorem Tryz.Dq:(prog.info? 228).map (λi=>(i.zero,i.size,i.bytes))=some (some (.agg #[.int .u8 0,.int .i64 0,.slice none 0 0]),3,40):=by kernel_rfl
theorem vP(n eb:Nat)(hn:1<=n)(a1:n<=200)(w:World):Calls prog 58 #[.int .i64 n,.func (.func 59) #[P0 eb] #[]] w λe w'=>∃sb pb,e=.returned (P0 sb)/\w.grownBy w' none/\w.heap.size<=sb/\w.heap.size<=pb/\jm w' sb pb eb n B.EZ Ax (λ_=>[]):=by
 obtain⟨i0,hi,W,H,G⟩:=info_parts Tryz.Dq;go_in;go_wp2_with (at_make;go_loud (refine wpList_make_full _ rfl _ _ 204 rfl 0 228 i0 _ 3 underlying204 hi W H _ _ _ _ n rfl rfl rfl rfl (by rw[G];omega) (by unfold maxLen;omega) (dc _) ?_))
 intro J i o;have u:Full J w.heap.size 228 (n*3) (n*3) (iM (λ_=>false) (λ_=>0) (λ_=>[])):=by
  rcases i.2 with⟨h,_⟩|⟨g',a0,y,h1,h2,h3,h4,h5,h6,h7⟩
  .cases h
  cases h1;refine⟨y,h3,h6,λj Z=>?_⟩;have Y:=congrArg (λl=>l[j]?) h7;have e2:(madeCells #[.int .u8 0,.int .i64 0,.slice none 0 0] (n*3)).toList[j]? = some (iM (λ_=>false) (λ_=>0) (λ_=>[]) j):=by
   simp only[madeCells,Array.getElem?_toList,Array.getElem?_map,Array.getElem?_range];rw[aj Z];have:j % 3=0\/j % 3=1\/j % 3=2:=by omega
   rcases this with h|h|h<;>simp[h,iM,tZ,oL]
  simp only[e2,dh]at Y;rw[aj Z]at Y;simpa using Y
 have HF:=az u;have HG:=az o;go_wp2_with fail
 go_ret;refine⟨J.heap.size,w.heap.size,rfl,au HG.out _,HG.out.size,bj _,⟨(bf J (.cells #[.slice (some ⟨w.heap.size,0,none⟩) n n,.func (.func 59) #[P0 eb] #[],.pointer none,.int .i64 0,.int .i64 0,.int .i64 0] 207)).trans (by simp[yg,B.EZ,wrap64]),⟨HF.out.block (ak _ _ _ HF.out.lt),λp _ _ h=>(by cases h),λp q _ _ _ _ h=>(by cases h),λp h=>(by cases h)⟩,λc h=>(by cases h)⟩⟩
def xR(fs:Value)(q wk t:Int)(b:Nat):Array Value:=#[fs,.int .i64 q,.int .i64 wk,.int .i64 t,Fv 163 #[P0 (b+2)],Fv 163 #[P0 (b+4)],Fv 151 #[P0 (b+5)],Fv 151 #[P0 (b+6)],Fv 151 #[P0 (b+7)],Fv 151 #[P0 (b+8)],Fv 163 #[P0 (b+10)],Fv 163 #[P0 (b+12)],Fv 163 #[P0 (b+14)],Fv 163 #[P0 (b+16)],Fv 101 #[],Fv 102 #[],Fv 163 #[P0 (b+18)],Fv 104 #[],Fv 163 #[P0 (b+19)],Fv 108 #[],Fv 163 #[P0 (b+20)],Fv 167 #[P0 (b+21),P0 (b+22)],Fv 167 #[P0 (b+23),P0 (b+24)],Fv 167 #[P0 (b+25),P0 (b+26)],Fv 167 #[P0 (b+27),P0 (b+28)],Fv 167 #[P0 (b+29),P0 (b+30)],Fv 163 #[P0 (b+32)],.pointer none,.int .i64 0,.slice none 0 0,.slice none 0 0,.slice none 0 0,.slice none 0 0,.slice none 0 0,.slice none 0 0,.slice none 0 0,.slice none 0 0,.slice none 0 0,.slice none 0 0,.slice none 0 0,.slice none 0 0,.slice none 0 0,.bool false,.slice none 0 0]
def Bq(fs:Value)(q wk t:Int)(b:Nat):Nat->Value:=λj=>(xR fs q wk t b).getD j undef
theorem Bp{w:World}{eb:Nat}{e:Value}{q wk t:Int}{b:Nat}(h:w.heap[eb]? = some (.cells (xR e q wk t b) 144 (0,0))):Full w eb 144 44 44 (Bq e q wk t b):=by
 refine⟨_,h,rfl,λj i=>?_⟩;have o:(xR e q wk t b).size=44:=rfl;unfold Bq;rw[Array.getD_eq_getD_getElem?,Array.getElem?_eq_getElem (by omega)];rfl
def Gi(w w7:World)(eb sb pb ac g nf n:Nat)(q wk t:Int):Prop:=w.heap.size<=eb/\w.heap.size<=sb/\w.heap.size<=pb/\w.heap.size<=ac/\Below w.heap.size w w7/\(∀k x,(lQ (ac+1))[k]? = some x->w7.heap[ac+1+k]? = some (.cells #[x.1] x.2 (0,0)))/\jm w7 sb pb eb n B.EZ Ax (λ_=>[])/\Full w7 eb 144 44 44 (ep (Bq (.slice (some ⟨g,0,none⟩) nf nf) q wk t ac) 27 (P0 sb))
theorem Fp(g nf:Nat)(c1 c2 c3:Int)(J:Nat)(R:Nat->World->Prop)(w:World)(aQ:1<=J)(aG:J<=200)(H:∀w7 eb sb pb ac,Gi w w7 eb sb pb ac g nf J c1 c2 c3->Calls prog 60 #[P0 eb,.int .i64 0,vA (0,0),vA (0,0)] w7 λe w'=>(∃x:Int,e=.returned (.int .i64 x))/\Below w.heap.size w7 w'/\R eb w'): Calls prog 38 #[.slice (some ⟨g,0,none⟩) nf nf,.agg #[.int .i64 J,.int .i64 c1,.int .i64 c2,.int .i64 c3]] w λe w'=>∃eb,e=.returned (P0 eb)/\Below w.heap.size w w'/\R eb w':=by
 have HH:=az H;clear H;go_in;go_wp2_with fail
 generalize o:w.alloc (.cells #[.int .i64 J,.int .i64 c1,.int .i64 c2,.int .i64 c3] 23)=w1;have aB:w1.heap.size=w.heap.size+1:=by rw[<-o];simp
 have b0:w1.cell? ⟨w.heap.size,0,none⟩=some (.int .i64 J):=by rw[<-o];simp[go_sem]
 have b1:w1.cell? ⟨w.heap.size,1,none⟩=some (.int .i64 c1):=by rw[<-o];simp[go_sem]
 have b2:w1.cell? ⟨w.heap.size,2,none⟩=some (.int .i64 c2):=by rw[<-o];simp[go_sem]
 have b3:w1.cell? ⟨w.heap.size,3,none⟩=some (.int .i64 c3):=by rw[<-o];simp[go_sem]
 have a7:Hid (Below w.heap.size w w1):=by show Below _ _ _;rw[<-o];exact(eM _ _).alloc (bj _) _
 clear o;generalize hN:w.heap.size=N at *;have l0:N<w1.heap.size:=by omega
 have hS:Hid (w1.drew.heap.size=N+1):=aB;go_cut [5] from 6 to 15 (λx wx=>∃(w2:World),x=P0 w2.heap.size/\wx=w2.alloc (.cells (xR (.slice (some ⟨g,0,none⟩) nf nf) c1 c2 c3 (N+1)) 144)/\Hid (Below w1.heap.size w1 w2)/\w2.heap.size=N+34/\Hid (∀k x,(lQ (N+1+1))[k]? = some x->w2.heap[N+1+1+k]? = some (.cells #[x.1] x.2 (0,0))))
 case first=>
  go_region_with (go_at_call 57;refine(BD (N+1) w1.drew hS).mono ?_;rintro e w2 ⟨rfl,i,u,aF⟩;have aU:w2.cell? ⟨N,1,none⟩=some (.int .i64 c1):=((i.cell (p:=⟨N,1,none⟩) l0).trans b1);have aR:w2.cell? ⟨N,2,none⟩=some (.int .i64 c2):=((i.cell (p:=⟨N,2,none⟩) l0).trans b2);have aV:w2.cell? ⟨N,3,none⟩=some (.int .i64 c3):=((i.cell (p:=⟨N,3,none⟩) l0).trans b3);have Y:=az aF;clear aF)
  all_goals
   go_wp2_with fail
   go_meet
   case rel=>exact⟨w2,by rw[u],rfl,⟨i.os,i.tape,i.output,i.size,i.block⟩,u,Y⟩
 case rest=>
  obtain⟨w2,rfl,y,i,u,Y⟩:=hcut;have aY:wc.heap.size=N+35:=by rw[y];simp;omega
  have a9:Hid (Below N w wc):=by
   show Below _ _ _;rw[y];exact(a7.out.trans (i.out.mono (by omega))).alloc (by omega) _
  have aD:Hid (∀k x,(lQ (N+1+1))[k]? = some x->wc.heap[N+1+1+k]? = some (.cells #[x.1] x.2 (0,0))):=λk x hx=>by
   have:=Y.out k x hx;rw[y,ak _ _ _ (bz this)];exact this
  have aJ:wc.cell? ⟨N,0,none⟩=some (.int .i64 J):=by
   have e1:wc.cell? ⟨N,0,none⟩=w2.cell? ⟨N,0,none⟩:=by rw[y];exact aw (ak _ _ _ (by show N<_;omega))
   rw[e1];exact(i.out.cell (p:=⟨N,0,none⟩) l0).trans b0
  have a6:wc.heap[N+34]? = some (.cells (xR (.slice (some ⟨g,0,none⟩) nf nf) c1 c2 c3 (N+1)) 144 (0,0)):=by rw[y,<-u];exact bf _ _
  have a2:=az (Bp a6);obtain⟨a3,aP⟩:=a2.out.cells 27 (by omega);have a3:wc.cell? ⟨N+34,27,none⟩=some (.pointer none):=a3;rw[u];clear y a6 i b0 b1 b2 b3 a7 aB l0 hS u Y;generalize hE:N+34=eb at *;go_wp2_with fail
  refine(vP J eb aQ aG _).mono ?_;rintro e w4 ⟨sb,pb,rfl,G,aW,aZ,aE⟩;have aT:=G.size;have a0:=az (a2.out.block (G.block eb (by omega) (by intro e;cases e)));obtain⟨a1,aO⟩:=a0.out.cells 27 (by omega);have a1:w4.cell? ⟨eb,27,none⟩=some (.pointer none):=a1;have a8:Hid (Below N w w4):=a9.out.trans ((tI G).mono (by omega));have W:=az aE;have a4:Hid (∀k x,(lQ (N+1+1))[k]? = some x->w4.heap[N+1+1+k]? = some (.cells #[x.1] x.2 (0,0))):=λk x hx=>dp G (aD.out k x hx);have aS:eb<w4.heap.size:=by omega
  clear G aE a3 aP a2 a9 aD aJ;go_wp2_with fail
  refine(fH 0 _).mono ?_;rintro e w5 ⟨rfl,rfl⟩;go_wp2_with fail
  refine(fH 0 _).mono ?_;rintro e w6 ⟨rfl,rfl⟩;go_wp2_with fail
  generalize hW:((w4.setCell ⟨eb,27,none⟩ (P0 sb)).alloc (.cells #[.int .i64 0,.int .i64 0] 149)).alloc (.cells #[.int .i64 0,.int .i64 0] 149)=w7;have aX:w7.heap.size=w4.heap.size+2:=by rw[<-hW];simp[World.setCell]
  have Z:∀k,k<w4.heap.size->k≠eb->w7.heap[k]? = w4.heap[k]?:=λk hk aM=>by rw[<-hW,ak _ _ _ (by simp[World.setCell];omega),ak _ _ _ (by simp[World.setCell];omega),af _ _ _ _ aM]
  have aH:Hid (Full w7 eb 144 44 44 (ep (Bq (.slice (some ⟨g,0,none⟩) nf nf) c1 c2 c3 (N+1)) 27 (P0 sb))):=by
   show Full _ _ _ _ _ _;rw[<-hW];exact((a0.out.ep 27 _).block (ak _ _ _ (by simp[World.setCell];omega))).block (ak _ _ _ (by simp[World.setCell];omega))
  have aC:Hid (Below N w w7):=by
   show Below _ _ _;rw[<-hW];exact((a8.out.setCell (by show N<=eb;omega) _).alloc (by simp[World.setCell];omega) _).alloc (by simp[World.setCell];omega) _
  have aN:Hid (jm w7 sb pb eb J B.EZ Ax (λ_=>[])):=W.out.block (Z sb (bz W.out.b) (by omega)) (Z pb W.out.p.p.lt (by omega)) (λk hk=>by
   rcases hk with⟨p,_,_,h,_⟩|⟨h,_⟩
   .cases h
   cases h)
  have aI:Hid (∀k x,(lQ (N+1+1))[k]? = some x->w7.heap[N+1+1+k]? = some (.cells #[x.1] x.2 (0,0))):=λk x hx=>by
   have h:=a4.out k x hx;refine(Z _ (bz h) ?_).trans h;intro e;rw[e]at h;obtain⟨c5,h5,h6,_⟩:=a0.out;rw[h5]at h;injection h with h;injection h with h _ _
   rw[h]at h6;simp at h6
  clear hW Z a0 a8 W a4 a1 aO;have aL:Hid (Gi w w7 eb sb pb (N+1) g nf J c1 c2 c3):=⟨by omega,by omega,by omega,by omega,by rw[hN];exact aC.out,aI.out,aN.out,aH.out⟩;refine(HH.out w7 eb sb pb (N+1) aL.out).mono ?_;rintro e w8 ⟨⟨x,rfl⟩,aA,a5⟩;have aK:Hid (Below N w w8):=aC.out.trans aA;have HR:=az a5;clear aA a5;go_wp2_with fail
  go_ret;exact⟨eb,rfl,by rw[hN];exact aK.out,HR.out⟩
end
namespace F
theorem Es{w:World}{sb pb eb n:Nat}(h:Go.Proofs.YtnjiinbhbjpfkaaGreatDoor.jm w sb pb eb n B.EZ Go.Proofs.YtnjiinbhbjpfkaaGreatDoor.Ax (λ_=>[])):jm w sb pb eb n B.EZ Ax (λ_=>[]):=by
 refine⟨h.b,⟨h.p.p.congr (λj _=>?_),λp _ _ e=>(by cases e),λp q _ _ _ _ e=>(by cases e),λp e=>(by cases e),λp e=>(by cases e)⟩,λc i=>(by cases i)⟩;unfold Go.Proofs.YtnjiinbhbjpfkaaGreatDoor.iM iM;rfl
def lU:Pl:=⟨0,λ_=>qR,λ_ _=>[],[],[],[],[],λ_=>[],false,0,B.EZ,λ_=>[],λ_=>0⟩
def Ed:eE:=⟨λ_=>0,λ_ _=>(none,0),λ_ _=>0,λ_ _=>0,λ_=>0,λ_=>0,λ_=>0,λ_=>0,0,0,none,0⟩
theorem Je(p:dz):Ok p lU:=by
 have J:eh p lU=[]:=rfl;refine { lw:=⟨λt ht=>?_,λx y _ t ht=>?_,λx y _=>List.nodup_nil,dc _⟩,ww:=λt ht=>?_,nd:=List.nodup_nil,lt:=λu e=>?_,ql:=λx y _ t ht=>?_,lf:=λu e=>?_,rn:=λu e=>?_,ol:=rfl,ok:=λv o=>?_,kn:=List.nodup_nil,kz:=λv o=>?_,fw:=λu e=>?_,hl:=?_,fc:=λk _ _ _=>dc _,bt:=λk=>⟨dc _,λx Y=>?_⟩,c0:=Int.le_refl _,c1:=by show(0:Int)<=_;omega }
 .have G:=ht.1;have H:t<=0:=ht.2;omega
 .cases ht
 .have G:=ht.1;have H:t<=0:=ht.2;omega
 .cases e
 .cases ht
 .have G:=e.1;have H:u<=0:=e.2;omega
 .have G:=e.1;have H:u<=0:=e.2;omega
 .cases o
 .cases o
 .cases e
 .rw[J];exact⟨λi hi=>ch hi (Nat.not_lt_zero _),λp _ v o=>(by cases o),λc W=>(by cases W)⟩
 cases Y
section
variable (w7 : World) (s : ByteArray) (eb sb pb ac g n q wk t : Nat) (gs : Nat → Nat)
def qe:dz:=⟨eb,sb,pb,n,M.bt s 0,g,gs,λk=>M.bt s (M.pos s k+1),λk=>M.bt s (M.pos s k),λk i=>pH s (M.pos s k+2+4*i),q,wk,t,ac+1,ep (Bq (.slice (some ⟨g,0,none⟩) (M.bt s 0) (M.bt s 0)) q wk t ac) 27 (P0 sb),λk=>k=g\/(∃f,f<M.bt s 0/\k=gs f)\/(ac+1<=k/\k<ac+33),λk=>w7.heap[k]?⟩
end
structure zg(w7:World) (s:ByteArray) (eb sb pb ac g n q wk t:Nat) (gs:Nat->Nat):Prop where
 ok:(M.jO s).2=true
 tm:Tm s
 n1:1<=n
 n2:n<=200
 hg:Full w7 g 178 (M.bt s 0*2) (M.bt s 0*2) (xO s gs)
 hf:∀k,k<M.bt s 0->2<=M.bt s (M.pos s k)/\M.bt s (M.pos s k)<=8/\1<=M.bt s (M.pos s k+1)/\M.bt s (M.pos s k+1)<=200/\Full w7 (gs k) 183 (M.bt s (M.pos s k+1)*4) (M.bt s (M.pos s k+1)*4) (oG s (M.pos s k+2))
 ha:∀k x,(lQ (ac+1))[k]? = some x->w7.heap[ac+1+k]? = some (.cells #[x.1] x.2 (0,0))
 st:jm w7 sb pb eb n B.EZ Ax (λ_=>[])
 en:Full w7 eb 144 44 44 (ep (Bq (.slice (some ⟨g,0,none⟩) (M.bt s 0) (M.bt s 0)) q wk t ac) 27 (P0 sb))
section
variable {w7 : World} {s : ByteArray} {eb sb pb ac g n q wk t : Nat} {gs : Nat → Nat} (h : zg w7 s eb sb pb ac g n q wk t gs)
include h
theorem zg.box{j:Nat}(e:j<32):w7.heap[ac+1+j]? = some (.cells #[((lQ (ac+1)).getD j (undef,0)).1] ((lQ (ac+1)).getD j (undef,0)).2 (0,0)):=by
 have i:(lQ (ac+1)).length=32:=rfl;have:=h.ha j _ (bn (by rw[i];exact e));rw[this,ar,bn (by rw[i];exact e)];rfl
theorem zg.pw:PW (qe w7 s eb sb pb ac g n q wk t gs):=by
 have u:∀w,Fix (qe w7 s eb sb pb ac g n q wk t gs) w->∀k,(k=g\/(∃f,f<M.bt s 0/\k=gs f)\/(ac+1<=k/\k<ac+33))->w.heap[k]? = w7.heap[k]?:=λw hw k W=>hw k W;refine⟨h.n1,h.n2,rfl,rfl,rfl,rfl,rfl,ag rfl,λw hw f y=>?_,λf y=>⟨(h.hf f y).1,(h.hf f y).2.1⟩,λo ho=>?_,λw hw j Y=>?_,λw hw f y=>?_,λf y=>(h.hf f y).2.2.2.1⟩
 .have hG:=h.hg.block (u w hw g (ag rfl));have J:f<M.bt s 0:=y;have c0:=hG.cell (f*2) (by omega);refine⟨c0.trans ?_,(hG.cell (f*2+1) (by omega)).trans ?_⟩
  .unfold xO;rw[aj (by omega),show f*2 / 2=f by omega];rfl
  unfold xO;rw[aa (by omega),show(f*2+1) / 2=f by omega];rfl
 .have H:o=0\/o=1\/o=2\/o=3\/o=4\/o=5\/o=6\/o=7\/o=8\/o=9\/o=10\/o=11\/o=12\/o=13\/o=14\/o=15\/o=16\/o=17\/o=18\/o=19\/o=20\/o=21\/o=22:=by omega
  rcases H with rfl|rfl|rfl|rfl|rfl|rfl|rfl|rfl|rfl|rfl|rfl|rfl|rfl|rfl|rfl|rfl|rfl|rfl|rfl|rfl|rfl|rfl|rfl<;>rfl
 .have e:w.heap[ac+1+j]? = w7.heap[ac+1+j]?:=u w hw _ (ab (ab ⟨by omega,by omega⟩));rw[h.box Y]at e;refine⟨?_,e⟩;show w.cell? ⟨ac+1+j,0,none⟩=_;simp only[World.cell?,e];rfl
 have G:=(h.hf f y).2.2.2.2.block (u w hw (gs f) (ab (ag ⟨f,y,rfl⟩)));refine⟨G.lt,λi hi=>?_⟩;have Z:i<M.bt s (M.pos s f+1):=hi;refine⟨(G.cell (i*4) (by omega)).trans ?_,(G.cell (i*4+1) (by omega)).trans ?_,(G.cell (i*4+2) (by omega)).trans ?_,(G.cell (i*4+3) (by omega)).trans ?_⟩
 .show some (Value.int .u8 (M.bt s (M.pos s f+2+i*4):Int))=some (Value.int .u8 (M.bt s (M.pos s f+2+4*i):Int));rw[Nat.mul_comm]
 .show some (Value.int .u8 (M.bt s (M.pos s f+2+(i*4+1)):Int))=some (Value.int .u8 (M.bt s (M.pos s f+2+4*i+1):Int));rw[Nat.mul_comm];rfl
 .show some (Value.int .u8 (M.bt s (M.pos s f+2+(i*4+2)):Int))=some (Value.int .u8 (M.bt s (M.pos s f+2+4*i+2):Int));rw[Nat.mul_comm];rfl
 show some (Value.int .u8 (M.bt s (M.pos s f+2+(i*4+3)):Int))=some (Value.int .u8 (M.bt s (M.pos s f+2+4*i+3):Int));rw[Nat.mul_comm];rfl
theorem zg.pi:PI (qe w7 s eb sb pb ac g n q wk t gs):=GZ h.tm h.ok (λ_=>rfl) rfl (λ_=>rfl) (λ_ _=>rfl)
theorem zg.Jz{k:Nat}(W:(qe w7 s eb sb pb ac g n q wk t gs).fx k):k<w7.heap.size/\k≠eb/\k≠sb/\k≠pb:=by
 have H:=h.st.b;have G:=h.st.p.p;rcases W with rfl|⟨f,J,rfl⟩|⟨Y,Z⟩
 .refine⟨h.hg.lt,h.hg.ne h.en (by decide),?_,h.hg.ne G (by decide)⟩;obtain⟨u,c1,_⟩:=h.hg;exact λe=>by rw[e,H]at c1;injection c1 with c1;injection c1 with _ o _;exact ch o (by decide)
 .have y:=(h.hf f J).2.2.2.2;refine⟨y.lt,y.ne h.en (by decide),?_,y.ne G (by decide)⟩;obtain⟨u,c1,_⟩:=y;exact λe=>by rw[e,H]at c1;injection c1 with c1;injection c1 with _ o _;exact ch o (by decide)
 obtain⟨j,rfl⟩:∃j,k=ac+1+j:=⟨k-(ac+1),by omega⟩;have i:=h.box (j:=j) (by omega);refine⟨bz i,λe=>?_,λe=>?_,λe=>?_⟩
 .obtain⟨u,c1,o,_⟩:=h.en;rw[e,c1]at i;injection i with i;injection i with i _ _;rw[i]at o;simp at o
 .rw[e,H]at i;injection i with i;injection i with i _ _;have:=congrArg Array.size i;simp at this
 obtain⟨u,c1,o,_⟩:=G;rw[e,c1]at i;injection i with i;injection i with i _ _;rw[i]at o;simp at o;omega
theorem zg.rep:dQ (qe w7 s eb sb pb ac g n q wk t gs) lU Ed w7:=by
 have a0:eb≠sb/\eb≠pb:=by
  refine⟨λe=>?_,h.en.ne h.st.p.p (by decide)⟩;obtain⟨a7,c1,_⟩:=h.en;rw[e,h.st.b]at c1;injection c1 with c1;injection c1 with _ c2 _;exact ch c2 (by decide)
 have a5:∀k,pP sb pb n B.EZ (jn lU Ed) k->k=sb\/k=pb:=λk i=>by
  rcases i with G|G|⟨_,_,_,G,_⟩|⟨G,_⟩
  .exact ag G
  .exact ab G
  .cases G
  cases G
 have J:∀x y z,gu lU x y z=true->(x=0\/x=1\/x=18\/eQ x)/\z=0/\(x<=1\/x=18->y=0):=λx y z o=>by
  have a6:=uM o;by_cases a:x=5\/x=11\/x=12\/x=15\/x=16
  .have:=(jq o a).1;have G:=this.1;have h2:y<=0:=this.2;omega
  by_cases b:x=13\/x=14
  .have:=(lI o b).1;have G:=this.1;have h2:y<=0:=this.2;omega
  by_cases c:x=17
  .subst c;have:=(ld o).1;have G:=this.1;have h2:y<=0:=this.2;omega
  by_cases d:x=4\/x=10
  .have:=(yk o d).2;unfold eQ;omega
  have:=jZ o (by omega);unfold eQ;omega
 refine⟨λx y z=>?_,λx y z x' y' z' k i a4=>?_⟩
 .by_cases o:gu lU x y z=true
  .obtain⟨W,hz,hy⟩:=J x y z o;rw[gH o];rcases W with rfl|rfl|rfl|W
   .show Full w7 eb 144 44 44 (iJ (qe w7 s eb sb pb ac g n q wk t gs) lU Ed);refine h.en.congr (λj hj=>?_);unfold iJ;by_cases Z:j<28
    .rw[aj Z];rfl
    rw[aa Z];have hc:j=28\/j=29\/j=30\/j=31\/j=32\/j=33\/j=34\/j=35\/j=36\/j=37\/j=38\/j=39\/j=40\/j=41\/j=42\/j=43:=by omega
    rcases hc with rfl|rfl|rfl|rfl|rfl|rfl|rfl|rfl|rfl|rfl|rfl|rfl|rfl|rfl|rfl|rfl<;>rfl
   .exact h.st
   .show ∀k,_->k<w7.heap.size/\w7.heap[k]? = _;intro k i;exact⟨(h.Jz i).1,rfl⟩
   rw[gk W];have hl:eH lU x y=0:=by unfold eH lU;simp[qR]
   have hc:fU lU Ed x y=[]:=by unfold fU lU;simp[qR,fT,kE,Ie]
   show w7.ownsRow 0 (zA x) (zB x) (.slice (Ed.ro x y).1 (eH lU x y) (Ed.ro x y).2) (eH lU x y) (fU lU Ed x y);rw[hl,hc];exact dJ _ _ _ _
  rw[vq o];trivial
 have Y:∀x y z,(ob (qe w7 s eb sb pb ac g n q wk t gs) lU Ed x y z).bs k->y=0/\z=0/\((x=0/\k=eb)\/(x=1/\(k=sb\/k=pb))\/(x=18/\(qe w7 s eb sb pb ac g n q wk t gs).fx k)):=λx y z i=>by
  by_cases o:gu lU x y z=true
  .obtain⟨W,hz,hy⟩:=J x y z o;rw[gH o]at i;rcases W with rfl|rfl|rfl|W
   .exact⟨hy (by omega),hz,ag ⟨rfl,i⟩⟩
   .exact⟨hy (by omega),hz,ab (ag ⟨rfl,a5 k i⟩)⟩
   .exact⟨hy (by omega),hz,ab (ab ⟨rfl,i⟩)⟩
   rw[gk W]at i
   cases i
  rw[vq o]at i;exact i.elim
 obtain⟨a1,a2,a3⟩:=Y x y z i;obtain⟨b1,b2,b3⟩:=Y x' y' z' a4;refine⟨?_,by omega,by omega⟩;rcases a3 with⟨Z,e2⟩|⟨Z,e2⟩|⟨Z,e2⟩
 .rcases b3 with⟨H,u⟩|⟨H,u⟩|⟨H,u⟩
  .omega
  .have:=a0;omega
  have:=(h.Jz u).2.1;omega
 .rcases b3 with⟨H,u⟩|⟨H,u⟩|⟨H,u⟩
  .have:=a0;omega
  .omega
  have:=(h.Jz u).2.2;omega
 rcases b3 with⟨H,u⟩|⟨H,u⟩|⟨H,u⟩
 .have:=(h.Jz e2).2.1;omega
 .have:=(h.Jz e2).2.2;omega
 omega
end
theorem Tr.below{p:dz}{s s':Pl}{g g':eE}{w w':World}{N:Nat}(h:dQ p s g w)(e:Tr p s g w s' g' w')(y:∀k,ey p s g k->N<=k\/p.fx k)(H:N<=w.heap.size):Below N w w':=by
 refine⟨e.o.1,e.o.2.1,e.o.2.2.1,e.o.size,λk G=>?_⟩;by_cases u:ey p s g k
 .have i:=(y k u).resolve_left (by omega);rw[(e.r.X k i).2,(h.X k i).2]
 exact e.o.same (by omega) u
end F
section
def J1(s:ByteArray)(w w':World)(e:Ending)(r:Nat×Bool):Prop:=∃(ad:Option Addr) (n c:Nat),e=.returned (.tuple #[.slice ad n c,.int .i64 (if r.2=true then 0 else(r.1:Int)),.bool r.2]) /\
 (r.2=true->n=M.bt s 0/\c=n/\1<=n/\n<=8/\∃g,ad=some ⟨g,0,none⟩/\rZ w' s w.heap.size g n n)
theorem CA(s:ByteArray)(w:World)(H:s.size<=maxLen)(o:mB w): Calls prog 37 #[.string s] w λe w'=>J1 s w w' e (M.jO s)/\Below w.heap.size w w':=by
 have hn:w.heap.size≠0:=by have:=o.1;omega
 have HS:Hid (s.size<=maxLen):=H;have i:Hid (mB w):=o;go_in;go_wp2_with fail
 refine(xd w.heap.size s 0 0 0 (w.alloc (.cells #[.string s,.int .i64 0,.int .i64 0,.int .i64 0,.int .i64 0] 128)) (bf w _) HS.out hn (i.out.alloc _)).mono ?_;rintro e w1 ⟨⟨ad,n,c,rfl,y⟩,f',r',l',J,u⟩;have Z:Hid ((M.jO s).2=true->n=M.bt s 0/\c=n/\1<=n/\n<=8/\∃g,ad=some ⟨g,0,none⟩/\rZ w1 s w.heap.size g n n):=λh=>by
  obtain⟨a1,a2,Y,a4,g,a5,a6,a7⟩:=y h;exact⟨a1,a2,Y,a4,g,a5,by have:=a6;simp at this;omega,a7⟩
 clear y;have G:=tH u;obtain⟨x0,x1,_,_,_⟩:=eR J;generalize hR:M.jO s=R at *;have W:=az hR;obtain⟨P,ok⟩:=R
 cases ok
 .go_wp2_with fail
  go_quiet (fail)
  go_wp2_with fail
  go_ret3
  exact⟨by rw[W.out];exact⟨_,_,_,rfl,λh=>by cases h⟩,below_drewN G _⟩
 go_wp2_with fail
 go_ret3
 exact⟨by rw[W.out];exact⟨_,_,_,rfl,λ_=>Z.out trivial⟩,G⟩
def tR(n m:Int):Bool:=decide (1<=n/\n<=m)
theorem gD(n m:Int)(w:World):Calls prog 55 #[.int .i64 n,.int .i64 m] w λe w'=>e=.returned (.bool (tR n m))/\w'=w:=by
 by_cases u:1<=n
 .by_cases o:n<=m
  .have e:tR n m=true:=by simp[tR];omega
   rw[e]
   go_in;go_wp2
   go_ret;exact⟨rfl,rfl⟩
  have e:tR n m=false:=by simp[tR];omega
  rw[e]
  go_in;go_wp2
  go_ret;exact⟨rfl,rfl⟩
 have e:tR n m=false:=by simp[tR];omega
 rw[e]
 go_in;go_wp2
 go_ret;exact⟨rfl,rfl⟩
def qT(c0 c1 c2 c3:Int):Bool:=tR c0 200 && (tR c1 50 && (tR c2 50 && tR c3 16))
theorem A3(c0 c1 u y:Int)(w:World):Calls prog 36 #[.agg #[.int .i64 c0,.int .i64 c1,.int .i64 u,.int .i64 y]] w λe w'=>e=.returned (.bool (qT c0 c1 u y))/\Below w.heap.size w w':=by
 unfold qT
 cases h0:tR c0 200
 .have i:=az h0;go_in;go_wp2_with fail
  refine(gD _ _ _).mono ?_;rintro e w1 ⟨rfl,rfl⟩;rw[i.out];go_wp2_with fail
  go_ret;exact⟨rfl,(eM _ _).alloc (bj _) _⟩
 cases h1:tR c1 50
 .have i:=az h0;have o:=az h1;go_in;go_wp2_with fail
  refine(gD _ _ _).mono ?_;rintro e w1 ⟨rfl,rfl⟩;rw[i.out];go_wp2_with fail
  refine(gD _ _ _).mono ?_;rintro e w1 ⟨rfl,rfl⟩;rw[o.out];go_wp2_with fail
  go_ret;exact⟨rfl,(eM _ _).alloc (bj _) _⟩
 cases h2:tR u 50
 .have i:=az h0;have o:=az h1;have G:=az h2;go_in;go_wp2_with fail
  refine(gD _ _ _).mono ?_;rintro e w1 ⟨rfl,rfl⟩;rw[i.out];go_wp2_with fail
  refine(gD _ _ _).mono ?_;rintro e w1 ⟨rfl,rfl⟩;rw[o.out];go_wp2_with fail
  refine(gD _ _ _).mono ?_;rintro e w1 ⟨rfl,rfl⟩;rw[G.out];go_wp2_with fail
  go_ret;exact⟨rfl,(eM _ _).alloc (bj _) _⟩
 have i:=az h0;have o:=az h1;have G:=az h2;generalize H:tR y 16=x;have J:Hid (tR y 16=x):=H;go_in;go_wp2_with fail
 refine(gD _ _ _).mono ?_;rintro e w1 ⟨rfl,rfl⟩;rw[i.out];go_wp2_with fail
 refine(gD _ _ _).mono ?_;rintro e w1 ⟨rfl,rfl⟩;rw[o.out];go_wp2_with fail
 refine(gD _ _ _).mono ?_;rintro e w1 ⟨rfl,rfl⟩;rw[G.out];go_wp2_with fail
 refine(gD _ _ _).mono ?_;rintro e w1 ⟨rfl,rfl⟩;rw[J.out];go_wp2_with fail
 go_ret;exact⟨by simp,(eM _ _).alloc (bj _) _⟩
def told(s:ByteArray)(c0 c1 c2 c3:Int):Int×Int×Bool:=
 if qT c0 c1 c2 c3=true then(if(M.jO s).2=true then(0,0,true) else(2,((M.jO s).1:Int),false)) else(1,0,false)
def Bx(w:World)(mb eb:Nat):Prop:=∃x,w.heap[mb]? = some (.cells #[.int .i32 0,x,P0 eb] 105 (0,0))
theorem ux(s:ByteArray)(c0 c1 Z c3:Int)(w:World)(hs:s.size<=maxLen)(hT:mB w)(R:Nat->World->Prop)(H:qT c0 c1 Z c3=true->(M.jO s).2=true->∀(w1 w2:World) (g cl:Nat),c0=(cl:Int)->w.heap.size+2<=w1.heap.size->Below w.heap.size w w2->w1.heap.size<=w2.heap.size->rZ w2 s w1.heap.size g (M.bt s 0) (M.bt s 0)->Calls prog 38 #[.slice (some ⟨g,0,none⟩) (M.bt s 0) (M.bt s 0),.agg #[.int .i64 cl,.int .i64 c1,.int .i64 Z,.int .i64 c3]] w2 λe w'=>∃eb,e=.returned (P0 eb)/\Below w2.heap.size w2 w'/\R eb w'): Calls prog 23 #[.string s,.agg #[.int .i64 c0,.int .i64 c1,.int .i64 Z,.int .i64 c3]] w λe w'=>Below w.heap.size w w'/\((∃x y:Int,e=.returned (.tuple #[.pointer none,.agg #[.int .i64 x,.int .i64 y]])/\¬(qT c0 c1 Z c3=true/\(M.jO s).2=true)/\told s c0 c1 Z c3=(x,y,false))\/(∃(mb eb:Nat) (G:World),e=.returned (.tuple #[P0 mb,.agg #[.int .i64 0,.int .i64 0]])/\R eb G/\w.heap.size+2<=mb/\mb=G.heap.size/\Bx w' mb eb/\∀k,k<G.heap.size->k≠w.heap.size+1->w'.heap[k]? = G.heap[k]?)):=by
 have HS:Hid (s.size<=maxLen):=hs;have aB:Hid (mB w):=hT;have HH:=az H;clear hs hT H;go_in;go_wp2_with fail
 refine(A3 _ _ _ _ _).mono ?_;rintro e w1 ⟨rfl,hB⟩;obtain⟨hc,hf⟩:=qL hB;have hz:=hB.size;simp at hz;have a1:=(((eM _ _).alloc (bj _) _).alloc (by simp) _).trans (hB.mono (by simp;omega));have J:=az a1;clear hB a1
 cases hok:qT c0 c1 Z c3
 .have u:=az hok;clear hok;go_wp2_with fail
  refine da (v:=.tuple #[.pointer none,.agg #[.int .i64 1,.int .i64 0]]) (by simp[results,results23,go_sem, *]) rfl ⟨?_,ag ⟨1,0,rfl,(λh=>by rw[u.out]at h;cases h.1),by unfold told;rw[aa (by rw[u.out];simp)]⟩⟩;repeat (refine Below.setCell ?_ (by simp) _)
  exact J.out
 have u:=az hok;clear hok;go_wp2_with fail
 refine(CA s _ HS.out (aB.out.below J.out)).mono ?_;rintro e w2 ⟨⟨ad,n,c,rfl,hA⟩,W⟩;have HA:=az hA;clear hA;have a3:=W.size;have l0:w.heap.size<w1.heap.size:=by omega
 have l1:w.heap.size+1<w1.heap.size:=by omega
 obtain⟨i,a0⟩:=qL W;have d0:w2.cell? ⟨w.heap.size+1,0,none⟩=some (.int .i64 0):=by rw[i _ _ l1,hc _ _ (by simp)];simp
 have d1:w2.cell? ⟨w.heap.size+1,1,none⟩=some (.int .i64 0):=by rw[i _ _ l1,hc _ _ (by simp)];simp
 have e0:w2.frozen? ⟨w.heap.size+1,0,none⟩=false:=by rw[a0 _ _ l1,hf _ _ (by simp)];simp
 have e1:w2.frozen? ⟨w.heap.size+1,1,none⟩=false:=by rw[a0 _ _ l1,hf _ _ (by simp)];simp
 have g0:w2.cell? ⟨w.heap.size,0,none⟩=some (.int .i64 c0):=by rw[i _ _ l0,hc _ _ (by simp;omega)];simp
 have g1:w2.cell? ⟨w.heap.size,1,none⟩=some (.int .i64 c1):=by rw[i _ _ l0,hc _ _ (by simp;omega)];simp
 have g2:w2.cell? ⟨w.heap.size,2,none⟩=some (.int .i64 Z):=by rw[i _ _ l0,hc _ _ (by simp;omega)];simp
 have g3:w2.cell? ⟨w.heap.size,3,none⟩=some (.int .i64 c3):=by rw[i _ _ l0,hc _ _ (by simp;omega)];simp
 have l2:w.heap.size+1<w2.heap.size:=by omega
 have Y:=az (J.out.trans (W.mono J.out.size));have aA:Hid (w.heap.size+2<=w1.heap.size):=hz;have a9:Hid (w1.heap.size<=w2.heap.size):=a3;clear W J hc hf i a0 hz a3 l0 l1;generalize hR:M.jO s=R at *;have HR:=az hR;clear hR;obtain⟨P,ok⟩:=R
 cases ok
 .go_wp2_with fail
  refine da (v:=.tuple #[.pointer none,.agg #[.int .i64 2,.int .i64 P]]) (by simp[results,results23,go_sem,d0,d1]) rfl ⟨?_,ag ⟨2,P,rfl,(λh=>by have h2:=h.2;rw[HR.out]at h2;cases h2),by unfold told;rw[aj u.out,HR.out];rfl⟩⟩;repeat (refine Below.setCell ?_ (by simp) _)
  exact Y.out
 obtain⟨aD,aE,a8,aF,g,a5,a2⟩:=HA.out rfl;subst aE a5;have a7:Hid (rZ w2 s w1.heap.size g c c):=a2;subst aD;clear HA a2 a8 aF;have aH:1<=c0/\c0<=200:=by have:=u.out;simp[qT,tR]at this;omega
 obtain⟨cl,rfl⟩:∃cl:Nat,c0=(cl:Int):=⟨c0.toNat,by omega⟩;go_wp2_with fail
 refine(HH.out u.out (by first|rfl|trivial) w1 w2 g cl rfl aA.out Y.out a9.out a7.out).mono ?_;rintro e G ⟨eb,rfl,o,a4⟩;have aG:=az a4;clear a4;have aJ:=o.size;have aC:Hid (Below w.heap.size w G):=Y.out.trans (o.mono (by omega));rw[<-o.cell (p:=⟨w.heap.size+1,0,none⟩) l2]at d0;rw[<-o.cell (p:=⟨w.heap.size+1,1,none⟩) l2]at d1;rw[<-o.frozen (p:=⟨w.heap.size+1,0,none⟩) l2]at e0;rw[<-o.frozen (p:=⟨w.heap.size+1,1,none⟩) l2]at e1;have l4:w.heap.size+1<G.heap.size:=by omega
 clear o g0 g1 g2 g3 Y;go_wp2_with fail
 refine da (v:=.tuple #[.pointer (some ⟨G.heap.size,0,none⟩),.agg #[.int .i64 0,.int .i64 0]]) (by simp[results,results23,go_sem,d0,d1,l4]) rfl ⟨?_,ab ⟨G.heap.size,eb,G,rfl,aG.out,by omega,rfl,⟨.int .u32 0,?_⟩,λk hk aI=>?_⟩⟩
 .repeat (first|exact aC.out|refine Below.setCell ?_ (by simp) _|refine Below.alloc ?_ (by simp[World.setCell];omega) _)
 .have h1:=bf ((G.setCell ⟨w.heap.size+1,0,none⟩ (.int .i64 0)).setCell ⟨w.heap.size+1,1,none⟩ (.int .i64 0)) (.cells #[.int .i32 0,.int .u32 0,P0 eb] 105);simpa[World.setCell] using h1
 have a6:((G.setCell ⟨w.heap.size+1,0,none⟩ (.int .i64 0)).setCell ⟨w.heap.size+1,1,none⟩ (.int .i64 0)).heap.size=G.heap.size:=by simp[World.setCell]
 rw[ak _ _ _ (by rw[a6];omega),af _ _ _ _ (by show k≠w.heap.size+1;omega),af _ _ _ _ (by show k≠w.heap.size+1;omega)]
end
namespace F
theorem G8{p:dz}{k:Nat}(h:ey p lU Ed k):k=p.eb\/k=p.sb\/k=p.pb\/p.fx k:=by
 obtain⟨x,y,z,o⟩:=h;by_cases i:gu lU x y z=true
 .rw[gH i]at o;have J:=uM i;by_cases G:eQ x
  .rw[gk G]at o
   cases o
  have H:x=0\/x=1\/x=11\/x=13\/x=14\/x=15\/x=16\/x=17\/x=18:=by unfold eQ at G;omega
  rcases H with rfl|rfl|rfl|rfl|rfl|rfl|rfl|rfl|rfl
  .exact ag o
  .rcases o with e|e|⟨_,_,_,e,_⟩|⟨e,_⟩
   .exact ab (ag e)
   .exact ab (ab (ag e))
   .cases e
   cases e
  .have:=(jq i (by omega)).1;have e:=this.1;have u:y<=0:=this.2;omega
  .have:=(lI i (by omega)).1;have e:=this.1;have u:y<=0:=this.2;omega
  .have:=(lI i (by omega)).1;have e:=this.1;have u:y<=0:=this.2;omega
  .have:=(jq i (by omega)).1;have e:=this.1;have u:y<=0:=this.2;omega
  .have:=(jq i (by omega)).1;have e:=this.1;have u:y<=0:=this.2;omega
  .have:=(ld i).1;have e:=this.1;have u:y<=0:=this.2;omega
  exact ab (ab (ab o))
 rw[vq i]at o;exact o.elim
structure tK(p:dz) (tx:ByteArray) (c0 c1 c2 c3:Int):Prop where
 n:(p.n:Int)=c0
 qn:(p.qn:Int)=c1
 wk:(p.wk:Int)=c2
 mt:(p.mt:Int)=c3
 nf:p.nf=M.bt tx 0
 rg:∀k,p.rg k=M.bt tx (M.pos tx k)
 len:∀k,p.len k=M.bt tx (M.pos tx k+1)
 ins:∀k i,p.ins k i=pH tx (M.pos tx k+2+4*i)
def Gk(tx:ByteArray)(c0 c1 c2 c3:Int)(z eb:Nat)(w3:World):Prop:=∃p s g,p.eb=eb/\J3 p/\dQ p s g w3/\Ok p s/\s=lU.born 0 (0,0) (0,0)/\tK p tx c0 c1 c2 c3/\∀k,ey p s g k->z<=k/\k<w3.heap.size
theorem Ha(s:ByteArray)(c0 c1 Y c3:Int)(w:World)(hs:s.size<=maxLen)(hT:mB w)(aF:(M.jO s).2=true->Tm s): Calls prog 23 #[.string s,.agg #[.int .i64 c0,.int .i64 c1,.int .i64 Y,.int .i64 c3]] w λe w'=>Below w.heap.size w w'/\((∃x y:Int,e=.returned (.tuple #[.pointer none,.agg #[.int .i64 x,.int .i64 y]])/\¬(qT c0 c1 Y c3=true/\(M.jO s).2=true))\/∃(mb:Nat) (p:dz) (g:eE),e=.returned (.tuple #[P0 mb,.agg #[.int .i64 0,.int .i64 0]])/\J3 p/\tN p (lU.born 0 (0,0) (0,0)) g mb w'/\tK p s c0 c1 Y c3/\∀k,ey p (lU.born 0 (0,0) (0,0)) g k\/k=mb->w.heap.size<=k/\k<w'.heap.size):=by
 refine(ux s c0 c1 Y c3 w hs hT (Gk s c0 c1 Y c3 (w.heap.size+2)) ?_).mono ?_
 .intro aD W w1 w2 g cl aG z1 B2 z2 hF;obtain⟨n1,n2,aH⟩:=nJ W;have hb:1<=c0/\c0<=200/\1<=c1/\c1<=50/\1<=Y/\Y<=50/\1<=c3/\c3<=16:=by
   simp[qT,tR]at aD;omega
  obtain⟨q,rfl⟩:∃q:Nat,c1=(q:Int):=⟨c1.toNat,by omega⟩;obtain⟨wk,rfl⟩:∃wk:Nat,Y=(wk:Int):=⟨Y.toNat,by omega⟩;obtain⟨t,rfl⟩:∃t:Nat,c3=(t:Int):=⟨c3.toNat,by omega⟩;obtain⟨hz,gs,hG,aC⟩:=hF;refine Fp g (M.bt s 0) q wk t cl (Gk s _ _ _ _ (w.heap.size+2)) w2 (by omega) (by omega) ?_;rintro w7 eb sb pb ac ⟨y1,y2,y3,y4,B7,hA,hS,hE⟩;have a1:=λk u=>B7.block k u;have pre:zg w7 s eb sb pb ac g cl q wk t gs:=⟨W,aF W,by omega,by omega,hG.block (a1 g hG.lt),λk u=>by
   obtain⟨_,a2,a3,a4,a5,a6⟩:=aC k u;exact⟨a2,a3,a4,a5,a6.block (a1 _ a6.lt)⟩,hA,Es hS,hE⟩
  have a0:=pre.rep;have J:∀k,ey (qe w7 s eb sb pb ac g cl q wk t gs) lU Ed k->(w2.heap.size<=k\/(qe w7 s eb sb pb ac g cl q wk t gs).fx k)/\w.heap.size+2<=k:=λk u=>by
   rcases G8 u with G|G|G|G
   .have G:k=eb:=G;exact⟨ag (by omega),by omega⟩
   .have G:k=sb:=G;exact⟨ag (by omega),by omega⟩
   .have G:k=pb:=G;exact⟨ag (by omega),by omega⟩
   refine⟨ab G,?_⟩;rcases G with h2|⟨f,hf,h2⟩|h2
   .omega
   .have:=(aC f hf).1;omega
   omega
  have H:=Je (qe w7 s eb sb pb ac g cl q wk t gs);have aB:(0:Nat)<(qe w7 s eb sb pb ac g cl q wk t gs).nf:=n1;refine(Ik (f:=0) (0,0) (0,0) a0 pre.pw H.lw H.nd H.lt H.ol aB (by show 0+1<=_;omega)).mono ?_;rintro e w' ⟨rfl,g',Z,_⟩;refine⟨⟨_,rfl⟩,Z.below a0 (λk u=>(J k u).1) B7.size,qe w7 s eb sb pb ac g cl q wk t gs,lU.born 0 (0,0) (0,0),g',rfl,⟨pre.pw,pre.pi,by show q<=50;omega,by show wk<=50;omega⟩,Z.r,H.born (by show 0+1<=_;omega) aB (dN.num 0) (dN.num 0),rfl,⟨aG.symm,rfl,rfl,rfl,rfl,λ_=>rfl,λ_=>rfl,λ_ _=>rfl⟩,λk u=>⟨?_,Z.r.lt u⟩⟩;rcases Z.m k u with G|G
  .exact(J k G).2
  have:=B7.size;omega
 rintro e w' ⟨hB,⟨x,y,G,h2,_⟩|⟨mb,eb,w3,rfl,⟨p,st,g,rfl,hP,hR,hO,rfl,a8,hM⟩,aI,rfl,aA,a7⟩⟩
 .exact⟨hB,ag ⟨x,y,G,h2⟩⟩
 have a9:dQ p (lU.born 0 (0,0) (0,0)) g w':=⟨λx y z=>(ob p (lU.born 0 (0,0) (0,0)) g x y z).fr w3 w' (hR.o x y z) (λk u=>a7 k (hR.lt ⟨x,y,z,u⟩) (by have:=(hM k ⟨x,y,z,u⟩).1;omega)),hR.i⟩
 refine⟨hB,ab ⟨w3.heap.size,p,g,rfl,hP,⟨a9,hO,(Ap lU 0 (0,0) (0,0)).2.1,aA,λu=>by have:=(hM _ u).2;omega⟩,a8,?_⟩⟩;rintro k (u|rfl)
 .exact⟨by have:=(hM k u).1;omega,a9.lt u⟩
 obtain⟨x,hx⟩:=aA;exact⟨by omega,bz hx⟩
end F
end Go.Proofs.YtnjiinbhbjpfkaaGreatDoor
