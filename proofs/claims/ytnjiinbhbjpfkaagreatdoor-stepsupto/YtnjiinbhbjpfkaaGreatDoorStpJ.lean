import Derived.Test.YtnjiinbhbjpfkaaGreatDoorStpI
set_option maxRecDepth 100000
set_option maxHeartbeats 0
set_option linter.all false
namespace Go.Proofs.YtnjiinbhbjpfkaaGreatDoor
open Go.RowKit Go.Proofs.Tryz
namespace D
open F
variable {p : Dp} {m m' : Dm} {g g' : Dg} {w w' : World}
theorem LQ{t how what:Nat}{into:Int}(h:dQ p m g w)(ht:mF m t)(hn:m.nt<1000000000)(hs:m.ji<1000000000): Calls prog 228 #[P0 g.mb,.int .i64 (t:Int),.int .i64 (how:Int),.int .i64 (what:Int),.int .i64 into] w λe w'=>e=.returned (.tuple #[])/\Tr p m g w (m.wait t how what into) g w':=by
 obtain⟨k,rfl⟩:∃k,t=k+1:=⟨t-1,by omega⟩;obtain⟨tb,W,hT,tc⟩:=h.tc ht;have Y:w.cell? ⟨g.mb,6,none⟩=some (.slice (some ⟨tb,0,none⟩) m.nt (g.ro 1 0).2):=by
  rw[show some (⟨tb,0,none⟩:Addr)=(g.ro 1 0).1 by rw[W]];exact(h.mc 6 (by omega) rfl).1
 refine(Ke (how:=how) (what:=what) (into:=into) (by omega) hn hs Y (h.mc 13 (by omega) rfl) (tc.c 1 (by omega)) (tc.c 2 (by omega)) (tc.c 3 (by omega)) (tc.c 5 (by omega)) (h.M.ne hT (by decide))).mono ?_;rintro e w' ⟨rfl,hg⟩;refine⟨rfl,Tr.kept ?_ hg⟩;have G:Tr p m g w { m with ji:=m.ji+1 } g (w.setCell ⟨g.mb,13,none⟩ (iK ((m.ji+1:Nat):Int))):=h.wQ 13 _ ⟨rfl,rfl,rfl,rfl,rfl,rfl,rfl,rfl⟩ (λi hi=>by
  by_cases e:i=13
  .subst e;rfl
  rw[aa e];unfold mE;rw[aa e,aa e];rfl)
 have step:∀{m1:Dm} {w1:World} (j:Nat) (v:Value) (x:Dt),j<8->dQ p m1 g w1->mF m1 (k+1)->x.fr=(m1.T (k+1)).fr->(∀i,i<8->tC x (iR m1 g 5 (k+1)) i=if i=j then v else tC (m1.T (k+1)) (iR m1 g 5 (k+1)) i)->Tr p m1 g w1 (m1.dv (k+1) x) g (w1.setCell ⟨tb,k*8+j,none⟩ v):=λj v x Z hr hd hf hE=>hr.sw hd W j Z v hf hE;have o:∀i:Nat,i<8->i=0\/i=1\/i=2\/i=3\/i=4\/i=5\/i=6\/i=7:=λi hi=>by omega
 have J:=step 1 (iK how) { m.T (k+1) with how:=how } (by omega) G.r ht rfl (λi hi=>by rcases o i hi with rfl|rfl|rfl|rfl|rfl|rfl|rfl|rfl<;>rfl);have y:=step 3 (iK what) { m.T (k+1) with how:=how,what:=what } (by omega) J.r ht (by rw[fG]) (λi hi=>by rw[fG];rcases o i hi with rfl|rfl|rfl|rfl|rfl|rfl|rfl|rfl<;>rfl);rw[iT]at y;have u:=step 2 (iK into) { m.T (k+1) with how:=how,what:=what,into:=into } (by omega) y.r ht (by rw[fG]) (λi hi=>by rw[fG];rcases o i hi with rfl|rfl|rfl|rfl|rfl|rfl|rfl|rfl<;>rfl);rw[iT]at u;have H:=step 5 (iK ((m.ji+1:Nat):Int)) ((m.T (k+1)).wt how what into (m.ji+1)) (by omega) u.r ht (by rw[fG];rfl) (λi hi=>by rw[fG];rcases o i hi with rfl|rfl|rfl|rfl|rfl|rfl|rfl|rfl<;>rfl);rw[iT]at H;exact(((G.trans J).trans y).trans u).trans H
theorem Tryz.qk:(prog.info? 3).map (λi=>(i.zero,i.size,i.bytes))=some (some (.int .i64 0),1,8):=by kernel_rfl
theorem Tryz.g9:prog.underlying 54=some (.slice 3):=by kernel_rfl
def Gi(w:World)(tb k ql qc:Nat)(qa:Option Addr)(xs:List Value)(w6:World)(b off c:Nat):Prop:=
 ∃o1 o2 o3,fM w6 3 (.slice (some ⟨b,off,none⟩) (xs.length+1) c) (xs++[.int .i64 ((k:Int)+1)])/\((((w.setCell ⟨tb,k*8+1,none⟩ (.int .i64 1)).alloc o1).alloc o2).alloc o3).grownBy w6 (Value.slice qa ql qc).ownBlock/\((Value.slice qa ql qc).ownBlock=some b\/b=w.heap.size+1+1+1)
theorem A0{rb tb cap k nt fl fc G u:Nat}{fa y:Option Addr}{v0 v1:Int}{x:Dt}{xs:List Value}(hk:k<nt)(hn:nt<1000000000)(hx:xs.length<=1000000000)(c6:w.cell? ⟨rb,6,none⟩=some (.slice (some ⟨tb,0,none⟩) nt cap))(q7:w.cell? ⟨rb,7,none⟩=some (.slice y G u)/\w.frozen? ⟨rb,7,none⟩=false)(i:∀j,j<8->w.cell? ⟨tb,k*8+j,none⟩=some (tC x (.slice fa fl fc) j)/\w.frozen? ⟨tb,k*8+j,none⟩=false)(hQ:fM w 3 (.slice y G u) xs)(ne:rb≠tb)(H:∀j,(Value.slice y G u).ownBlock=some j->j≠rb/\j≠tb)(a6:x.into<0): Calls prog 144 #[P0 rb,.int .i64 ((k:Int)+1),.agg #[.int .i64 v0,.int .i64 v1]] w λe w'=>e=.returned (.tuple #[])/\∃b off c o,Gi w tb k G u y xs o b off c/\w'=o.setCell ⟨rb,7,none⟩ (.slice (some ⟨b,off,none⟩) (xs.length+1) c):=by
 obtain⟨i0,hi,a2,a1,a0⟩:=info_parts Tryz.qk;obtain⟨q7,z7⟩:=q7;have z1:=(i 1 (by omega)).2;have lr:=av w _ c6;have c1:w.cell? ⟨tb,k*8+1,none⟩=some (.int .i64 x.how):=(i 1 (by omega)).1;have lt:=av w _ c1;have Z:∀j,(Value.slice y G u).ownBlock=some j->j≠rb/\j≠tb/\j<w.heap.size:=λj h=>⟨(H j h).1,(H j h).2,hQ.lt j h⟩;have HQ:=az hQ;have HK:=az Z;have c0:w.cell? ⟨tb,k*8,none⟩=some (.slice fa fl fc):=(i 0 (by omega)).1;have c2:w.cell? ⟨tb,k*8+2,none⟩=some (.int .i64 x.into):=(i 2 (by omega)).1;have c3:w.cell? ⟨tb,k*8+3,none⟩=some (.int .i64 x.what):=(i 3 (by omega)).1;have c4:w.cell? ⟨tb,k*8+4,none⟩=some (.int .i64 x.km):=(i 4 (by omega)).1;have c5:w.cell? ⟨tb,k*8+5,none⟩=some (.int .i64 x.ji):=(i 5 (by omega)).1;have a5:w.cell? ⟨tb,k*8+6,none⟩=some (.int .i64 x.out.1):=(i 6 (by omega)).1;have c7:w.cell? ⟨tb,k*8+7,none⟩=some (.int .i64 x.out.2):=(i 7 (by omega)).1;clear i hQ H Z;have q5:=fp (n:=k) (by omega);have a4:(0:Int)<=k:=by omega
 have q8:(k:Int)<nt:=by omega
 have a3:¬(0<=x.into):=by omega
 go_in;go_wp2_with (at_builtin;refine gZ _ rfl (.tmp 27) (.tmp 29) 54 rfl 3 i0 _ 8 Tryz.g9 hi a2 a1 a0 rfl _ xs rfl (HQ.block ?cq) _ _ (.int .i64 ((k:Int)+1)) rfl ?c1 rfl ?c3 ?c4 ?_)
 case cq=>
  intro j h;obtain⟨k1,k2,k3⟩:=HK j h;rw[ak _ _ _ (by simp;omega),ak _ _ _ (by simp;omega),ak _ _ _ (by simp;omega),af _ _ _ _ k2]
 try case c1=>simp[go_sem]
 try case c3=>unfold maxLen;omega
 try case c4=>omega
 intro g off c o hq W J;have KR:Hid (Gi w tb k G u y xs o g off c):=⟨_,_,_,hq,W,J⟩;have f2:o.cell? ⟨w.heap.size+1,2,none⟩=some (.int .i64 x.into):=by
  rw[aw (W.block (w.heap.size+1) (by simp) (λh=>by have:=(HK _ h.symm).2.2;omega))];simp[go_sem]
 have b0:o.heap[rb]? = w.heap[rb]?:=by rw[W.block rb (by simp;omega) (λh=>(HK rb h.symm).1 rfl),ak _ _ _ (by simp;omega),ak _ _ _ (by simp;omega),ak _ _ _ (by simp;omega),af _ _ _ _ ne]
 have d7:=(aw (a:=⟨rb,7,none⟩) b0).trans q7;have e7:=(dg (a:=⟨rb,7,none⟩) b0).trans z7
 go_wp2_with fail
 go_end0;exact⟨rfl,g,off,c,o,KR,rfl⟩
theorem yC{rb tb cap k nt f fc J G fb r vb rl rc:Nat}{H:Option Addr}{v0 v1:Int}{x:Dt}{xs:List Value}{o8 o9:Value}(hk:k<nt)(hn:nt<1000000000)(hx:xs.length<=1000000000)(c6:w.cell? ⟨rb,6,none⟩=some (.slice (some ⟨tb,0,none⟩) nt cap))(q7:w.cell? ⟨rb,7,none⟩=some (.slice H J G)/\w.frozen? ⟨rb,7,none⟩=false)(o:∀j,j<8->w.cell? ⟨tb,k*8+j,none⟩=some (tC x (.slice (some ⟨fb,0,none⟩) (f+1) fc) j)/\w.frozen? ⟨tb,k*8+j,none⟩=false)(hQ:fM w 3 (.slice H J G) xs)(ne:rb≠tb)(y:∀j,(Value.slice H J G).ownBlock=some j->j≠rb/\j≠tb/\j≠vb/\j≠fb)(a2:x.into=(r:Int))(Z:w.cell? ⟨fb,f*4+1,none⟩=some (.slice (some ⟨vb,0,none⟩) rl rc))(a5:fb≠tb/\fb≠rb)(nv:vb≠rb/\vb≠tb/\vb≠fb)(a0:w.cell? ⟨vb,r*2,none⟩=some o8/\w.frozen? ⟨vb,r*2,none⟩=false)(a4:w.cell? ⟨vb,r*2+1,none⟩=some o9/\w.frozen? ⟨vb,r*2+1,none⟩=false)(hr:r<rl)(hf:f<=100000): Calls prog 144 #[P0 rb,.int .i64 ((k:Int)+1),.agg #[.int .i64 v0,.int .i64 v1]] w λe w'=>e=.returned (.tuple #[])/\∃b off c i,Gi w tb k J G H xs i b off c/\(((i.setCell ⟨rb,7,none⟩ (.slice (some ⟨b,off,none⟩) (xs.length+1) c)).setCell ⟨vb,r*2,none⟩ (.int .i64 v0)).setCell ⟨vb,r*2+1,none⟩ (.int .i64 v1)).grownBy w' none:=by
 obtain⟨i0,hi,aA,a9,aB⟩:=info_parts Tryz.qk;obtain⟨q7,z7⟩:=q7;have z1:=(o 1 (by omega)).2;have lr:=av w _ c6;have c1:w.cell? ⟨tb,k*8+1,none⟩=some (.int .i64 x.how):=(o 1 (by omega)).1;have lt:=av w _ c1;have a7:∀j,(Value.slice H J G).ownBlock=some j->j≠rb/\j≠tb/\j<w.heap.size/\j≠vb/\j≠fb:=λj h=>⟨(y j h).1,(y j h).2.1,hQ.lt j h,(y j h).2.2⟩;have HQ:=az hQ;have Y:=az a7;have lv:=av w _ a0.1;have lf:=av w _ Z;have c0:w.cell? ⟨tb,k*8,none⟩=some (.slice (some ⟨fb,0,none⟩) (f+1) fc):=(o 0 (by omega)).1;have c2:w.cell? ⟨tb,k*8+2,none⟩=some (.int .i64 r):=by rw[<-a2];exact(o 2 (by omega)).1
 have c3:w.cell? ⟨tb,k*8+3,none⟩=some (.int .i64 x.what):=(o 3 (by omega)).1;have c4:w.cell? ⟨tb,k*8+4,none⟩=some (.int .i64 x.km):=(o 4 (by omega)).1;have c5:w.cell? ⟨tb,k*8+5,none⟩=some (.int .i64 x.ji):=(o 5 (by omega)).1;have aJ:w.cell? ⟨tb,k*8+6,none⟩=some (.int .i64 x.out.1):=(o 6 (by omega)).1;have c7:w.cell? ⟨tb,k*8+7,none⟩=some (.int .i64 x.out.2):=(o 7 (by omega)).1;have aC:=az Z;have a1:=az a0;have a8:=az a4;clear o hQ y a7 a2 Z a0 a4;have q5:=fp (n:=k) (by omega);have aG:(0:Int)<=k:=by omega
 have q8:(k:Int)<nt:=by omega
 have aO:(r:Int)<rl:=by omega
 go_in;go_wp2_with (at_builtin;refine gZ _ rfl (.tmp 27) (.tmp 29) 54 rfl 3 i0 _ 8 Tryz.g9 hi aA a9 aB rfl _ xs rfl (HQ.out.block ?cq) _ _ (.int .i64 ((k:Int)+1)) rfl ?c1 rfl ?c3 ?c4 ?_)
 case cq=>
  intro j h;obtain⟨k1,k2,k3,_⟩:=Y.out j h;rw[ak _ _ _ (by simp;omega),ak _ _ _ (by simp;omega),ak _ _ _ (by simp;omega),af _ _ _ _ k2]
 try case c1=>simp[go_sem]
 try case c3=>unfold maxLen;omega
 try case c4=>omega
 intro g off c i hq W a3;have KR:Hid (Gi w tb k J G H xs i g off c):=⟨_,_,_,hq,W,a3⟩;have a6:=W.size;have u:∀j,j<w.heap.size->j≠tb->(Value.slice H J G).ownBlock≠some j->i.heap[j]? = w.heap[j]?:=λj hj h1 h2=>by rw[W.block j (by simp;omega) (λh=>h2 h.symm),ak _ _ _ (by simp;omega),ak _ _ _ (by simp;omega),ak _ _ _ (by simp;omega),af _ _ _ _ h1]
 have b0:=u rb lr ne (λh=>(Y.out rb h).1 rfl);have b2:=u vb lv nv.2.1 (λh=>(Y.out vb h).2.2.2.1 rfl);have b3:=u fb lf a5.1 (λh=>(Y.out fb h).2.2.2.2 rfl);have d7:=(aw (a:=⟨rb,7,none⟩) b0).trans q7;have e7:=(dg (a:=⟨rb,7,none⟩) b0).trans z7;have g1:i.cell? ⟨fb,f*4+1,none⟩=some (.slice (some ⟨vb,0,none⟩) rl rc):=(aw (a:=⟨fb,f*4+1,none⟩) b3).trans aC.out;have aD:=(aw (a:=⟨vb,r*2,none⟩) b2).trans a1.1;have aI:=(dg (a:=⟨vb,r*2,none⟩) b2).trans a1.2;have aE:=(aw (a:=⟨vb,r*2+1,none⟩) b2).trans a8.1;have aN:=(dg (a:=⟨vb,r*2+1,none⟩) b2).trans a8.2;have f2:i.cell? ⟨w.heap.size+1,2,none⟩=some (.int .i64 r):=by
  rw[aw (W.block (w.heap.size+1) (by simp) (λh=>by have:=(Y _ h.symm).2.2.1;omega))];simp[go_sem]
 have f0:i.cell? ⟨w.heap.size+1,0,none⟩=some (.slice (some ⟨fb,0,none⟩) (f+1) fc):=by
  rw[aw (W.block (w.heap.size+1) (by simp) (λh=>by have:=(Y _ h.symm).2.2.1;omega))];simp[go_sem]
 have aK:i.cell? ⟨w.heap.size,0,none⟩=some (.int .i64 v0):=by
  rw[aw (a:=⟨w.heap.size,0,none⟩) (W.block w.heap.size (by simp;omega) (λh=>by have:=(Y _ h.symm).2.2.1;omega))];simp[go_sem]
 have aF:i.cell? ⟨w.heap.size,1,none⟩=some (.int .i64 v1):=by
  rw[aw (a:=⟨w.heap.size,1,none⟩) (W.block w.heap.size (by simp;omega) (λh=>by have:=(Y _ h.symm).2.2.1;omega))];simp[go_sem]
 have n7:¬(rb=vb):=λe=>nv.1 e.symm;clear hq W a3 b0 b2 b3 a6 u;have aL:IntKind.i64.wrap ((f:Int)+1-1)=(f:Int):=fp (by omega);have aM:(f:Int)<f+1:=by omega
 have aH:(0:Int)<=f:=by omega
 go_wp2_with fail
 go_region
 all_goals
  go_wp2_with fail
  go_end0;refine⟨rfl,g,off,c,i,KR,?_⟩;first
   | exact ax _ _
   | exact bq (ax _ _)
   | exact db (ax _ _) _
   | exact⟨rfl,rfl,rfl,bj _,λ_ _ _=>rfl⟩
theorem iH(l:List Nat):(iI l).length=l.length:=by unfold iI;exact dS _
theorem Cz{t:Nat}(v:B.V)(h:dQ p m g w)(ht:mF m t)(hn:m.nt<1000000000)(hq:m.q.length<=1000000000)(a5:0<=(m.T t).into->(m.T t).fr.length≠0/\(m.T t).fr.length<=20/\(m.T t).into.toNat<p.rg (pR m t).f): Calls prog 144 #[P0 g.mb,.int .i64 t,vA v] w λe w'=>e=.returned (.tuple #[])/\∃g',Tr p m g w (m.ready t v) g' w':=by
 obtain⟨k,rfl⟩:∃k,t=k+1:=⟨t-1,by omega⟩;obtain⟨tb,e1,hT,tc⟩:=h.tc ht;have c6:w.cell? ⟨g.mb,6,none⟩=some (.slice (some ⟨tb,0,none⟩) m.nt (g.ro 1 0).2):=by
  rw[show some (⟨tb,0,none⟩:Addr)=(g.ro 1 0).1 by rw[e1]];exact(h.mc 6 (by omega) rfl).1
 have a8:(iR m g 2 0).ownBlock=eO (g.ro 2 0).1:=dr _ _ _;have u:∀j,(iR m g 2 0).ownBlock=some j->(ok p m g 2 0 0).bs j:=λj o=>by rw[a8]at o;exact o
 have v0:vd p m 0 0 0=true:=rfl;have v1:vd p m 1 0 0=true:=rfl;have W:vd p m 2 0 0=true:=rfl;have b0:(ok p m g 0 0 0).bs g.mb:=rfl;have G:(ok p m g 1 0 0).bs tb:=by
  show eO (g.ro 1 0).1=some tb;rw[e1];rfl
 have ne:=h.M.ne hT (by decide);have cs:∀i:Nat,i<8->i=0\/i=1\/i=2\/i=3\/i=4\/i=5\/i=6\/i=7:=λi hi=>by omega
 have h1:Tr p m g w (m.dv (k+1) ((m.T (k+1)).hw 1)) g (w.setCell ⟨tb,k*8+1,none⟩ (.int .i64 1)):=h.sw ht e1 1 (by omega) _ rfl (λi hi=>by rcases cs i hi with rfl|rfl|rfl|rfl|rfl|rfl|rfl|rfl<;>rfl);have tW:∀b off c H,Gi w tb k m.q.length (g.ro 2 0).2 (g.ro 2 0).1 (iI m.q) H b off c->Tr p m g w (m.tW (k+1)) (g.at 2 0 (some ⟨b,off,none⟩,c)) (H.setCell ⟨g.mb,7,none⟩ (.slice (some ⟨b,off,none⟩) (m.q.length+1) c)):=λb off c H hR=>by
  obtain⟨o1,o2,o3,r1,r2,r3⟩:=hR;rw[iH]at r1;exact Tr.qv (t:=k+1) (((h1.kept (ah _ o1 none)).kept (ah _ o2 none)).kept (ah _ o3 none)) r1 r2 (r3.imp id (λe=>by rw[e];simp))
 have Z:(iI m.q).length<=1000000000:=by rw[iH];exact hq
 by_cases hi:0<=(m.T (k+1)).into
 .obtain⟨f1,f2,f3⟩:=a5 hi;obtain⟨a4,fb,n,T⟩:=h.top ht f1;have a7:a4=tb:=by
   have:=T.b;rw[e1]at this;injection this with this _;injection this with this;injection this with this _;exact this.symm
  subst a7;have a1:pQ m (k+1)=n:=by unfold pQ;rw[T.l];omega
  have a3:pR m (k+1)=fj m (k+1) n:=by unfold pR;rw[a1]
  rw[a3]at f3;have J:n<(m.T (k+1)).fr.length:=by rw[T.l];omega
  have a2:=h.R ht J;have y:(ok p m g 6 (k+1) n).bs (g.rb (k+1) n):=rfl;have a0:(ok p m g 5 (k+1) 0).bs fb:=by
   show eO (g.ro 5 (k+1)).1=some fb;rw[T.a];rfl
  have v5:=pX (p:=p) (m:=m) ht.1 ht.2;have v6:=Az (p:=p) (m:=m) ht.1 ht.2 J;refine(yC (fc:=(g.ro 5 (k+1)).2) (x:=m.T (k+1)) (r:=(m.T (k+1)).into.toNat) (v0:=(v.1:Int)) (v1:=v.2) (xs:=iI m.q) (by omega) hn Z c6 (h.mc 7 (by omega) rfl) (λj o=>?_) h.Q ne (λj o=>⟨h.ne W v0 (u j o) b0 (by omega),h.ne W v1 (u j o) G (by omega),h.ne W v6 (u j o) y (by omega),h.ne W v5 (u j o) a0 (by omega)⟩) (by omega) T.k1 ⟨T.n2.symm,T.n1.symm⟩ ⟨h.ne v6 v0 y b0 (by omega),h.ne v6 v1 y G (by omega),h.ne v6 v5 y a0 (by omega)⟩ (a2.cells _ (by omega)) (a2.cells _ (by omega)) f3 (by omega)).mono ?_
  .have:=tc.c j o;have hs:iR m g 5 (k+1)=.slice (some ⟨fb,0,none⟩) (n+1) (g.ro 5 (k+1)).2:=by
    show Value.slice (g.ro 5 (k+1)).1 (m.T (k+1)).fr.length _=_;rw[T.a,T.l]
   rw[hs]at this;exact this
  rintro e w' ⟨rfl,b,off,c,H,hR,hg⟩;rw[iH]at hg;have h2:=tW b off c H hR;have Y:((m.tW (k+1)).T (k+1))=(m.T (k+1)).hw 1:=fG _ _ _;have a6:fj (m.tW (k+1)) (k+1) n=fj m (k+1) n:=by unfold fj;rw[Y];rfl
  have h3:=h2.r.wP (t:=k+1) (i:=n) ht (by rw[Y];exact J) (m.T (k+1)).into.toNat v;refine⟨rfl,g.at 2 0 (some ⟨b,off,none⟩,c),?_⟩;unfold Dm.ready;rw[aj hi,a1,a3];rw[a6]at h3;exact(h2.trans h3).kept hg
 refine(A0 (x:=m.T (k+1)) (v0:=(v.1:Int)) (v1:=v.2) (xs:=iI m.q) (by omega) hn Z c6 (h.mc 7 (by omega) rfl) (λj o=>tc.c j o) h.Q ne (λj o=>⟨h.ne W v0 (u j o) b0 (by omega),h.ne W v1 (u j o) G (by omega)⟩) (by omega)).mono ?_;rintro e w' ⟨rfl,b,off,c,H,hR,rfl⟩;refine⟨rfl,g.at 2 0 (some ⟨b,off,none⟩,c),?_⟩;unfold Dm.ready;rw[aa hi,iH];exact tW b off c H hR
def Dg.oD(g:Dg)(t i b:Nat):Dg:={ g with rb:=λa c=>if a=t/\c=i then b else g.rb a c }
theorem ve(g:Dg)(t i b:Nat):(g.oD t i b).rb t i=b:=aj ⟨rfl,rfl⟩
theorem ph(g:Dg){t i a c:Nat}(b:Nat)(h:¬(a=t/\c=i)):(g.oD t i b).rb a c=g.rb a c:=aa h
theorem dQ.push(h:dQ p m g w){t:Nat}(ht:mF m t){tb kb ck vb:Nat}{f:gY}(hb:g.ro 1 0=(some ⟨tb,0,none⟩,(g.ro 1 0).2))(hO:dy (λk=>k=tb\/eO (g.ro 5 t).1=some k) w w')(hT:Full w' tb 167 ((g.ro 1 0).2*8) (m.nt*8) (ep (tE m g) ((t-1)*8) (.slice (some ⟨kb,0,none⟩) ((m.T t).fr.length+1) ck)))(hK:w'.ownsRow 0 163 4 (.slice (some ⟨kb,0,none⟩) ((m.T t).fr.length+1) ck) ((m.T t).fr.length+1) (rowP ((m.T t).fr.length*4) (fE p m g t)++[fC p f vb 0,fC p f vb 1,fC p f vb 2,fC p f vb 3]))(hV:Full w' vb 115 (p.rg f.f*2) (p.rg f.f*2) (eC f.R))(J:eO (g.ro 5 t).1=some kb\/w.heap.size<=kb)(hv:w.heap.size<=vb)(aA:kb≠vb):Tr p m g w (m.push t f) ((g.at 5 t (some ⟨kb,0,none⟩,ck)).oD t (m.T t).fr.length vb) w':=by
 have:=ht.1;have:=ht.2;obtain⟨b,G,h1,h2,h3⟩:=h.T (by omega);have a7:b=tb:=by rw[hb]at G;injection G with G;injection G with G _;exact G.symm
 subst a7;have a5:(m.push t f).T t=(m.T t).kD ((m.T t).fr++[f]):=fG _ _ _;have W:∀u,u≠t->(m.push t f).T u=m.T u:=λu e=>fA _ _ e;have Z:((m.push t f).T t).fr.length=(m.T t).fr.length+1:=by rw[a5];show((m.T t).fr++[f]).length=_;rw[bo];rfl
 have Y:∀y z,fj (m.push t f) y z=if y=t/\z=(m.T t).fr.length then f else fj m y z:=λy z=>by
  unfold fj;by_cases e:y=t
  .subst e;rw[a5];show((m.T y).fr++[f]).getD z mr=_;by_cases e2:z=(m.T y).fr.length
   .rw [aj ⟨rfl,e2⟩,e2,ar,dX (bj _)];simp
   rw [aa (λe=>e2 e.2),ar,ar];rcases Nat.lt_or_ge z (m.T y).fr.length with h|h
   .rw [du h]
   rw [cw (l:=(m.T y).fr) h,cw (by rw[bo];simp;omega)]
  rw [W y e,aa (λe'=>e e'.1)]
 have a9:∀x y z,¬(x=6/\y=t/\z=(m.T t).fr.length)->vd p (m.push t f) x y z=vd p m x y z:=λx y z hC=>by
  unfold vd;by_cases e:x=6
  .subst e;show decide (1<=y/\y<=m.nt/\z<((m.push t f).T y).fr.length)=decide (1<=y/\y<=m.nt/\z<(m.T y).fr.length);by_cases e2:y=t
   .subst e2;rw[Z];apply decide_eq_decide.2
    have:z≠(m.T y).fr.length:=λe=>hC ⟨rfl,rfl,e⟩;omega
   rw [W y e2]
  rw [aa e,aa e];rfl
 have v6:vd p (m.push t f) 6 t (m.T t).fr.length=true:=Az ht.1 ht.2 (by rw[Z];omega);have v5:vd p (m.push t f) 5 t 0=true:=pX ht.1 ht.2;refine h.to (λx y z=>(x=1/\y=0/\z=0)\/(x=5/\y=t/\z=0)\/(x=6/\y=t/\z=(m.T t).fr.length)) (λk=>if k=vb then(6,t,(m.T t).fr.length) else(5,t,0)) (hO.mono ?_) (λx y z hC=>jT (a9 x y z (λe=>hC (ab (ab e)))) (λa1=>?_)) ?_ ?_
 .rintro k (rfl|J) _
  .exact ⟨1,0,0,ag ⟨rfl,rfl,rfl⟩,((Bw p m hb) _).2 rfl⟩
  exact ⟨5,t,0,ab (ag ⟨rfl,rfl,rfl⟩),by rw[fP (pX ht.1 ht.2)];exact J⟩
 .refine ok_eq (e0:=λ_=>⟨rfl,CZ p m g t ((m.T t).kD ((m.T t).fr++[f])) (some ⟨kb,0,none⟩,ck)⟩) (er:=λa8=>?_) (eq:=λe=>⟨qG g _ (by omega),?_,?_⟩) (e6:=λe=>?_) (hx:=kG a1)
  .have a4:x≠1:=λe=>hC (ag ⟨e,jC a1 (by omega)⟩);have h5:¬(x=5/\y=t):=λe=>hC (ab (ag ⟨e.1,e.2,by have:=e.1;subst this;exact(uh a1).2.2⟩));refine⟨qG g _ h5,?_,?_⟩
   .unfold qz;by_cases e5:x=5
    .subst e5;show((m.push t f).T y).fr.length=(m.T y).fr.length;rw[W y (λe=>h5 ⟨rfl,e⟩)]
    rw [aa e5,aa e5];rfl
   unfold rC;rw[aa a4,aa a4];by_cases e3:x=3
   .rw [aj e3,aj e3];rfl
   rw[aa e3,aa e3];by_cases e4:x=4
   .rw [aj e4,aj e4];rfl
   rw[aa e4,aa e4];have e5:x=5:=by unfold Ey at a8;omega
   have a0:y≠t:=λe=>h5 ⟨e5,e⟩;rw[W y a0];refine iD (λi _=>?_);unfold fE;rw[Y,aa (λe=>a0 e.1),ph _ _ (λe=>a0 e.1)];rfl
  .unfold qz;rcases e with rfl|rfl<;>rfl
  .rcases e with rfl|rfl<;>rfl
  subst e;have hn:¬(y=t/\z=(m.T t).fr.length):=λe=>hC (ab (ab ⟨rfl,e⟩));rw[Y,aa hn,ph _ _ hn];exact⟨rfl,rfl,rfl⟩
 .rintro x y z (⟨rfl,rfl,rfl⟩|⟨rfl,rfl,rfl⟩|⟨rfl,rfl,rfl⟩)
  .show World.ownsRow _ 0 167 8 (.slice ((g.at 5 t (some ⟨kb,0,none⟩,ck)).ro 1 0).1 m.nt ((g.at 5 t (some ⟨kb,0,none⟩,ck)).ro 1 0).2) m.nt (rowP (m.nt*8) (tE (m.push t f) (g.at 5 t (some ⟨kb,0,none⟩,ck))));rw[qG g _ (by omega),G];refine mn h1 h2 (hT.congr (λi hi=>?_));have:=Cb m g ht.1 ((m.T t).fr++[f]) (some ⟨kb,0,none⟩,ck) i;rw[show((m.T t).fr++[f]).length=(m.T t).fr.length+1 by rw[bo];rfl]at this;exact this.symm
  .rw [fP v5];show World.ownsRow _ 0 163 4 (.slice ((g.at 5 y (some ⟨kb,0,none⟩,ck)).ro 5 y).1 ((m.push y f).T y).fr.length ((g.at 5 y (some ⟨kb,0,none⟩,ck)).ro 5 y).2) ((m.push y f).T y).fr.length (rowP (((m.push y f).T y).fr.length*4) (fE p (m.push y f) ((g.at 5 y (some ⟨kb,0,none⟩,ck)).oD y (m.T y).fr.length vb) y));rw[xS,Z];have a3:∀i k,k<4->fE p (m.push y f) ((g.at 5 y (some ⟨kb,0,none⟩,ck)).oD y (m.T y).fr.length vb) y (i*4+k)=if i=(m.T y).fr.length then fC p f vb k else fE p m g y (i*4+k):=λi k J=>by
    rw[tA _ _ _ _ J,tA _ _ _ _ J,Y];by_cases e:i=(m.T y).fr.length
    .rw [aj e,aj ⟨rfl,e⟩,e,ve]
    rw [aa e,aa (λe'=>e e'.2),ph _ _ (λe'=>e e'.2)];rfl
   rw[show((m.T y).fr.length+1)*4=(m.T y).fr.length*4+4 by omega,<-sA (n:=(m.T y).fr.length*4) (k:=4) (P:=fE p m g y) (ys:=[fC p f vb 0,fC p f vb 1,fC p f vb 2,fC p f vb 3]) (λj hj=>?_) rfl (λj hj=>?_)]
   .exact hK
   .have:=a3 (j / 4) (j % 4) (by omega);rw[show j / 4*4+j % 4=j by omega,aa (by omega)]at this;exact this
   rw [a3 _ _ hj,aj rfl];have hc:j=0\/j=1\/j=2\/j=3:=by omega
   rcases hc with rfl|rfl|rfl|rfl<;>rfl
  rw [fP v6];show Full w' (((g.at 5 y (some ⟨kb,0,none⟩,ck)).oD y (m.T y).fr.length vb).rb y (m.T y).fr.length) 115 (p.rg (fj (m.push y f) y (m.T y).fr.length).f*2) (p.rg (fj (m.push y f) y (m.T y).fr.length).f*2) (eC (fj (m.push y f) y (m.T y).fr.length).R);rw[Y,aj ⟨rfl,rfl⟩,ve];exact hV
 rintro x y z k (⟨rfl,rfl,rfl⟩|⟨rfl,rfl,rfl⟩|⟨rfl,rfl,rfl⟩) H
 .left
  have o:eO ((g.at 5 t (some ⟨kb,0,none⟩,ck)).ro 1 0).1=some k:=H;rw[qG g _ (by omega)]at o;exact o
 .rw [fP v5]at H;have o:eO ((g.at 5 y (some ⟨kb,0,none⟩,ck)).ro 5 y).1=some k:=H;rw[xS]at o;have a2:some kb=some k:=o;injection a2 with a2;subst a2;rcases J with J|J
  .left
   rw[fP (pX ht.1 ht.2)];exact J
  exact ab ⟨J,aa aA⟩
 rw [fP v6]at H;have o:k=((g.at 5 y (some ⟨kb,0,none⟩,ck)).oD y (m.T y).fr.length vb).rb y (m.T y).fr.length:=H;rw[ve]at o;subst o;exact ab ⟨hv,aj rfl⟩
def Dm.jw(m:Dm)(x:Dt):Dm:={ m with nt:=m.nt+1,T:=λt=>if t=m.nt+1 then x else m.T t }
theorem dQ.jw(h:dQ p m g w){tb tc kb vb:Nat}{x:Dt}{f:gY}(hx:x.fr=[f])(hO:dy (λk=>k=g.mb\/eO (g.ro 1 0).1=some k) w w')(hM:Full w' g.mb 112 24 24 (ep (mE p m g) 6 (.slice (some ⟨tb,0,none⟩) (m.nt+1) tc)))(hT:w'.ownsRow 0 167 8 (.slice (some ⟨tb,0,none⟩) (m.nt+1) tc) (m.nt+1) (rowP (m.nt*8) (tE m g)++[.slice (some ⟨kb,0,none⟩) 1 1,iK x.how,iK x.into,iK x.what,iK x.km,iK x.ji,iK x.out.1,iK x.out.2]))(hK:Full w' kb 163 4 4 (fC p f vb))(hV:Full w' vb 115 (p.rg f.f*2) (p.rg f.f*2) (eC f.R))(ht:eO (g.ro 1 0).1=some tb\/w.heap.size<=tb)(hk:w.heap.size<=kb)(hv:w.heap.size<=vb)(aE:kb≠vb)(aB:tb≠kb)(aC:tb≠vb):Tr p m g w (m.jw x) (((g.at 1 0 (some ⟨tb,0,none⟩,tc)).at 5 (m.nt+1) (some ⟨kb,0,none⟩,1)).oD (m.nt+1) 0 vb) w':=by
 have J:(m.jw x).T (m.nt+1)=x:=aj rfl;have a0:∀u,u≠m.nt+1->(m.jw x).T u=m.T u:=λu e=>aa e;have a9:∀y z,y≠m.nt+1->fj (m.jw x) y z=fj m y z:=λy z e=>by unfold fj;rw[a0 y e]
 have a2:fj (m.jw x) (m.nt+1) 0=f:=by unfold fj;rw[J,hx];rfl
 generalize H:((g.at 1 0 (some ⟨tb,0,none⟩,tc)).at 5 (m.nt+1) (some ⟨kb,0,none⟩,1)).oD (m.nt+1) 0 vb=g';have r1:g'.ro 1 0=(some ⟨tb,0,none⟩,tc):=by rw[<-H];exact(qG (g.at 1 0 (some ⟨tb,0,none⟩,tc)) (x:=5) (y:=m.nt+1) (some ⟨kb,0,none⟩,1) (by omega)).trans (xS _ _ _ _)
 have r5:g'.ro 5 (m.nt+1)=(some ⟨kb,0,none⟩,1):=by rw[<-H];exact xS _ _ _ _
 have ro:∀a b,¬(a=1/\b=0)->¬(a=5/\b=m.nt+1)->g'.ro a b=g.ro a b:=λa b e1 e2=>by rw[<-H];exact(qG _ _ e2).trans (qG _ _ e1)
 have a5:g'.rb (m.nt+1) 0=vb:=by rw[<-H];exact ve _ _ _ _
 have a6:∀a c,a≠m.nt+1->g'.rb a c=g.rb a c:=λa c e=>by rw[<-H];exact ph _ _ (λe'=>e e'.1)
 have a3:g'.mb=g.mb:=by rw[<-H];rfl
 have a7:g'.sb=g.sb:=by rw[<-H];rfl
 have a4:∀a b,a≠1->¬(a=5/\b=m.nt+1)->qz (m.jw x) a b=qz m a b:=λa b e1 e2=>by
  unfold qz;rw[aa e1,aa e1];by_cases Y:a=5
  .subst Y;show((m.jw x).T b).fr.length=(m.T b).fr.length;rw[a0 b (λe=>e2 ⟨rfl,e⟩)]
  rw [aa Y,aa Y];rfl
 have a1:∀a b,a≠1->¬(a=5/\b=m.nt+1)->iR (m.jw x) g' a b=iR m g a b:=λa b e1 e2=>by
  unfold iR;rw[ro a b (λe=>e1 e.1) e2,a4 a b e1 e2]
 have a8:iR (m.jw x) g' 1 0=.slice (some ⟨tb,0,none⟩) (m.nt+1) tc:=by
  unfold iR;rw[r1];rfl
 have aD:∀a b c,¬(a=5/\b=m.nt+1/\c=0)->¬(a=6/\b=m.nt+1/\c=0)->vd p (m.jw x) a b c=vd p m a b c:=λa b c e1 e2=>by
  unfold vd;by_cases Y:a=5
  .subst Y;show decide (1<=b/\b<=m.nt+1/\c=0)=decide (1<=b/\b<=m.nt/\c=0);apply decide_eq_decide.2
   have:¬(b=m.nt+1/\c=0):=λe=>e1 ⟨rfl,e⟩;omega
  rw[aa Y,aa Y];by_cases h6:a=6
  .subst h6;show decide (1<=b/\b<=m.nt+1/\c<((m.jw x).T b).fr.length)=decide (1<=b/\b<=m.nt/\c<(m.T b).fr.length);apply decide_eq_decide.2
   by_cases eb:b=m.nt+1
   .subst eb;rw[J,hx];have:c≠0:=λe=>e2 ⟨rfl,rfl,e⟩;show(1<=m.nt+1/\m.nt+1<=m.nt+1/\c<1)↔_;omega
   rw [a0 b eb];omega
  rw[aa h6,aa h6];rfl
 have v5:vd p (m.jw x) 5 (m.nt+1) 0=true:=pX (by omega) (bj _);have v6:vd p (m.jw x) 6 (m.nt+1) 0=true:=Az (by omega) (bj _) (by rw[J,hx];exact Nat.lt_succ_self 0)
 refine h.to (λa b c=>(a=0/\b=0/\c=0)\/(a=1/\b=0/\c=0)\/(a=5/\b=m.nt+1/\c=0)\/(a=6/\b=m.nt+1/\c=0)) (λk=>if k=vb then(6,m.nt+1,0) else if k=kb then(5,m.nt+1,0) else(1,0,0)) (hO.mono ?_) (λa b c hC=>jT (aD a b c (λe=>hC (ab (ab (ag e)))) (λe=>hC (ab (ab (ab e))))) (λZ=>?_)) ?_ ?_ a3
 .rintro k (rfl|hk) _
  .exact ⟨0,0,0,ag ⟨rfl,rfl,rfl⟩,rfl⟩
  exact ⟨1,0,0,ab (ag ⟨rfl,rfl,rfl⟩),hk⟩
 .have h1:a≠1:=λe=>hC (ab (ag ⟨e,jC Z (by omega)⟩));have Y:¬(a=5/\b=m.nt+1):=λe=>by
   obtain⟨rfl,rfl⟩:=e;have:=(uh Z).2.1;omega
  refine ok_eq (e0:=λe=>ch e (λe=>hC (ag ⟨e,jC Z (by omega)⟩))) (er:=λhr=>⟨ro a b (λe=>h1 e.1) Y,a4 a b h1 Y,?_⟩) (eq:=λe=>⟨ro a b (λe=>h1 e.1) Y,a4 a b h1 Y,?_⟩) (e6:=λe=>?_) (e7:=λ_=>⟨by rw[a7],rfl⟩) (hx:=kG Z)
  .unfold rC;rw[aa h1,aa h1];by_cases e3:a=3
   .rw [aj e3,aj e3];refine iD (λi _=>?_);unfold cE;rw[a7];rfl
   rw[aa e3,aa e3];by_cases e4:a=4
   .rw [aj e4,aj e4];rfl
   rw[aa e4,aa e4];have e5:a=5:=by unfold Ey at hr;omega
   have hb:b≠m.nt+1:=λe=>Y ⟨e5,e⟩;rw[a0 b hb];refine iD (λi _=>?_);unfold fE;rw[a9 b _ hb,a6 b _ hb]
  .unfold qC;rcases e with rfl|rfl<;>rfl
  subst e;have hb:b≠m.nt+1:=λe=>by
   have:=(wv Z).2.1;omega
  rw[a9 b _ hb,a6 b _ hb];exact⟨rfl,rfl,rfl⟩
 .rintro a b c (⟨rfl,rfl,rfl⟩|⟨rfl,rfl,rfl⟩|⟨rfl,rfl,rfl⟩|⟨rfl,rfl,rfl⟩)
  .show Full w' g'.mb 112 24 24 (mE p (m.jw x) g');rw[a3];refine hM.congr (λi hi=>?_);show(if i=6 then _ else _)=_;by_cases e6:i=6
   .subst e6;rw[aj rfl];exact a8.symm
   rw [aa e6];unfold mE;rw[aa e6,aa e6,a1 2 0 (by decide) (by omega),a1 10 _ (by decide) (by omega),a1 3 0 (by decide) (by omega),a1 4 0 (by decide) (by omega)];rfl
  .show World.ownsRow _ 0 167 8 (.slice (g'.ro 1 0).1 (m.nt+1) (g'.ro 1 0).2) (m.nt+1) (rowP ((m.nt+1)*8) (tE (m.jw x) g'));rw[r1,show(m.nt+1)*8=m.nt*8+8 by omega,<-sA (n:=m.nt*8) (k:=8) (P:=tE m g) (ys:=[.slice (some ⟨kb,0,none⟩) 1 1,iK x.how,iK x.into,iK x.what,iK x.km,iK x.ji,iK x.out.1,iK x.out.2]) (λj hj=>?_) rfl (λj hj=>?_)]
   .exact hT
   .unfold tE;rw[a0 _ (by omega),a1 5 _ (by decide) (by omega)]
   unfold tE;rw[show(m.nt*8+j) / 8+1=m.nt+1 by omega,show(m.nt*8+j) % 8=j by omega,J];have aA:iR (m.jw x) g' 5 (m.nt+1)=.slice (some ⟨kb,0,none⟩) 1 1:=by
    unfold iR;rw[r5];show Value.slice _ ((m.jw x).T (m.nt+1)).fr.length _=_;rw[J,hx];rfl
   rw[aA];have hc:j=0\/j=1\/j=2\/j=3\/j=4\/j=5\/j=6\/j=7:=by omega
   rcases hc with rfl|rfl|rfl|rfl|rfl|rfl|rfl|rfl<;>rfl
  .rw [fP v5];show World.ownsRow _ 0 163 4 (.slice (g'.ro 5 (m.nt+1)).1 ((m.jw x).T (m.nt+1)).fr.length (g'.ro 5 (m.nt+1)).2) ((m.jw x).T (m.nt+1)).fr.length (rowP (((m.jw x).T (m.nt+1)).fr.length*4) (fE p (m.jw x) g' (m.nt+1)));rw[r5,J,hx];refine mn (n:=1) (c:=1) (sz:=4) (bj _) (by unfold maxLen;omega) (hK.congr (λj hj=>?_));have:=tA p (m.jw x) g' (m.nt+1) (i:=0) (k:=j) hj;rw[Nat.zero_mul,Nat.zero_add]at this;rw[this,a2,a5]
  rw [fP v6];show Full w' (g'.rb (m.nt+1) 0) 115 (p.rg (fj (m.jw x) (m.nt+1) 0).f*2) (p.rg (fj (m.jw x) (m.nt+1) 0).f*2) (eC (fj (m.jw x) (m.nt+1) 0).R);rw[a2,a5];exact hV
 rintro a b c k (⟨rfl,rfl,rfl⟩|⟨rfl,rfl,rfl⟩|⟨rfl,rfl,rfl⟩|⟨rfl,rfl,rfl⟩) W
 .have:k=g'.mb:=W;exact ag (this.trans a3)
 .have o:eO (g'.ro 1 0).1=some k:=W;rw[r1]at o;have G:some tb=some k:=o;injection G with G;subst G;exact ht.imp id (λe=>⟨e,by rw[aa aC,aa aB]⟩)
 .rw [fP v5]at W;have o:eO (g'.ro 5 (m.nt+1)).1=some k:=W;rw[r5]at o;have G:some kb=some k:=o;injection G with G;subst G;exact ab ⟨hk,by rw[aa aE,aj rfl]⟩
 rw [fP v6]at W;have o:k=g'.rb (m.nt+1) 0:=W;rw[a5]at o;subst o;exact ab ⟨hv,aj rfl⟩
def Dm.lN(m:Dm)(ty:Nat)(l:List B.V):Dm:={ m with nc:=m.nc+1,M:=λc=>if c=m.nc+1 then l else m.M c,ck:=λc=>if c=m.nc+1 then ty else m.ck c }
def Dg.slt(g:Dg)(c b:Nat):Dg:={ g with sb:=λa=>if a=c then b else g.sb a }
theorem Tr.lN{m0:Dm}{g0:Dg}{w0:World}(h0:Tr p m0 g0 w0 m g w){cb cc J ty:Nat}{l:List B.V}(hO:dy (λk=>k=g.mb\/eO (g.ro 3 0).1=some k) w w')(hM:Full w' g.mb 112 24 24 (ep (mE p m g) 12 (.slice (some ⟨cb,0,none⟩) (m.nc+1) cc)))(hC:w'.ownsRow 0 233 2 (.slice (some ⟨cb,0,none⟩) (m.nc+1) cc) (m.nc+1) (rowP (m.nc*2) (cE m g)++[.slice (some ⟨J,0,none⟩) l.length l.length,iK ((ty:Int)-1)]))(hS:Full w' J 115 (l.length*2) (l.length*2) (eC (kT l)))(hc:eO (g.ro 3 0).1=some cb\/(¬ey p m g cb/\w0.heap.size<=cb))(hs:¬ey p m g J/\w0.heap.size<=J)(a7:cb≠J):Tr p m0 g0 w0 (m.lN ty l) ((g.at 3 0 (some ⟨cb,0,none⟩,cc)).slt (m.nc+1) J) w':=by
 have a3:(m.lN ty l).M (m.nc+1)=l:=aj rfl;have a4:∀u,u≠m.nc+1->(m.lN ty l).M u=m.M u:=λu e=>aa e;have a6:(m.lN ty l).ck (m.nc+1)=ty:=aj rfl;have a8:∀u,u≠m.nc+1->(m.lN ty l).ck u=m.ck u:=λu e=>aa e;generalize y:(g.at 3 0 (some ⟨cb,0,none⟩,cc)).slt (m.nc+1) J=g';have r3:g'.ro 3 0=(some ⟨cb,0,none⟩,cc):=by rw[<-y];exact xS g 3 0 (some ⟨cb,0,none⟩,cc)
 have ro:∀a b,¬(a=3/\b=0)->g'.ro a b=g.ro a b:=λa b o=>by rw[<-y];exact qG g (some ⟨cb,0,none⟩,cc) o
 have s1:g'.sb (m.nc+1)=J:=by rw[<-y];exact aj rfl
 have so:∀a,a≠m.nc+1->g'.sb a=g.sb a:=λa e=>by rw[<-y];exact aa e
 have Z:g'.mb=g.mb:=by rw[<-y];rfl
 have a2:g'.rb=g.rb:=by rw[<-y];rfl
 have a1:∀a b,a≠3->qz (m.lN ty l) a b=qz m a b:=λa b o=>by
  unfold qz;rw[aa o,aa o];rfl
 have G:∀a b,a≠3->iR (m.lN ty l) g' a b=iR m g a b:=λa b o=>by
  unfold iR;rw[ro a b (λe=>o e.1),a1 a b o]
 have a9:∀a b c,¬(a=7/\b=m.nc+1/\c=0)->vd p (m.lN ty l) a b c=vd p m a b c:=λa b c o=>by
  unfold vd;by_cases h7:a=7
  .subst h7;show decide (1<=b/\b<=m.nc+1/\c=0)=decide (1<=b/\b<=m.nc/\c=0);apply decide_eq_decide.2
   have:¬(b=m.nc+1/\c=0):=λe=>o ⟨rfl,e⟩;omega
  rw[aa h7,aa h7];rfl
 have v7:vd p (m.lN ty l) 7 (m.nc+1) 0=true:=Gw (by omega) (bj _);refine Tr.to (λa b c=>(a=0/\b=0/\c=0)\/(a=3/\b=0/\c=0)\/(a=7/\b=m.nc+1/\c=0)) (λk=>if k=J then(7,m.nc+1,0) else(3,0,0)) h0 (hO.mono ?_) (λa b c hC=>jT (a9 a b c (λe=>hC (ab (ab e)))) (λY=>?_)) ?_ ?_ Z
 .rintro k (rfl|hk) _
  .exact ⟨0,0,0,ag ⟨rfl,rfl,rfl⟩,rfl⟩
  exact ⟨3,0,0,ab (ag ⟨rfl,rfl,rfl⟩),hk⟩
 .have h0:a≠0:=λe=>hC (ag ⟨e,jC Y (by omega)⟩);have h3:a≠3:=λe=>hC (ab (ag ⟨e,jC Y (by omega)⟩));refine ok_eq (e0:=λe=>ch e h0) (er:=λhr=>⟨ro a b (λe=>h3 e.1),a1 a b h3,?_⟩) (eq:=λe=>⟨ro a b (λe=>h3 e.1),a1 a b h3,?_⟩) (e6:=λ_=>⟨by rw[a2],rfl,rfl⟩) (e7:=λe=>?_) (hx:=kG Y)
  .unfold rC;rw[aa h3,aa h3];by_cases o:a=1
   .rw [aj o,aj o];refine iD (λi _=>?_);unfold tE;rw[G 5 _ (by decide)];rfl
   rw[aa o,aa o];by_cases e4:a=4
   .rw [aj e4,aj e4];rfl
   rw[aa e4,aa e4];refine iD (λi _=>?_);unfold fE;rw[a2];rfl
  .unfold qC;rcases e with rfl|rfl<;>rfl
  subst e;have hb:b≠m.nc+1:=λe=>by
   have:=(zl Y).2.1;omega
  exact⟨so b hb,a4 b hb⟩
 .rintro a b c (⟨rfl,rfl,rfl⟩|⟨rfl,rfl,rfl⟩|⟨rfl,rfl,rfl⟩)
  .show Full w' g'.mb 112 24 24 (mE p (m.lN ty l) g');rw[Z];refine hM.congr (λi hi=>?_);show(if i=12 then _ else _)=_;by_cases e6:i=12
   .subst e6;rw[aj rfl];show _=Value.slice (g'.ro 3 0).1 (m.nc+1) (g'.ro 3 0).2;rw[r3]
   rw [aa e6];unfold mE;rw[aa e6,aa e6,G 1 0 (by decide),G 2 0 (by decide),G 10 _ (by decide),G 4 0 (by decide)];rfl
  .show World.ownsRow _ 0 233 2 (.slice (g'.ro 3 0).1 (m.nc+1) (g'.ro 3 0).2) (m.nc+1) (rowP ((m.nc+1)*2) (cE (m.lN ty l) g'));rw[r3,show(m.nc+1)*2=m.nc*2+2 by omega,<-sA (n:=m.nc*2) (k:=2) (P:=cE m g) (ys:=[.slice (some ⟨J,0,none⟩) l.length l.length,iK ((ty:Int)-1)]) (λj hj=>?_) rfl (λj hj=>?_)]
   .exact hC
   .unfold cE;rw[so _ (by omega),a4 _ (by omega),a8 _ (by omega)]
   unfold cE;rw[show(m.nc*2+j) / 2+1=m.nc+1 by omega,s1,a3,a6];have a5:j=0\/j=1:=by omega
   rcases a5 with rfl|rfl
   .rw [aj (by omega)];rfl
   rw [aa (by omega)];rfl
  rw [fP v7];show Full w' (g'.sb (m.nc+1)) 115 (((m.lN ty l).M (m.nc+1)).length*2) (((m.lN ty l).M (m.nc+1)).length*2) (eC (kT ((m.lN ty l).M (m.nc+1))));rw[s1,a3];exact hS
 rintro a b c k (⟨rfl,rfl,rfl⟩|⟨rfl,rfl,rfl⟩|⟨rfl,rfl,rfl⟩) W
 .have:k=g'.mb:=W;exact ag (this.trans Z)
 .have H:eO (g'.ro 3 0).1=some k:=W;rw[r3]at H;have a0:some cb=some k:=H;injection a0 with a0;subst a0;exact hc.imp id (λe=>⟨e.1,e.2,aa a7⟩)
 rw [fP v7]at W;have H:k=g'.sb (m.nc+1):=W;rw[s1]at H;subst H;exact ab ⟨hs.1,hs.2,aj rfl⟩
theorem Tryz.Fc:(prog.info? 167).map (λi=>(i.zero,i.size,i.bytes))=some (some (.agg #[.slice none 0 0,.int .i64 0,.int .i64 0,.int .i64 0,.int .i64 0,.int .i64 0,.int .i64 0,.int .i64 0]),8,80):=by kernel_rfl
theorem Tryz.underlying106:prog.underlying 106=some (.slice 167):=by kernel_rfl
def At(m:Dm)(g g1:Dg):Prop:=(∀t i,t<=m.nt->g1.rb t i=g.rb t i)/\g1.sb=g.sb
theorem Eu{b tb tc:Nat}{o2:Obj}{w2 w6 W:World}{f:gY}{x:Dt}(h:dQ p m g w)(Z:w.grownBy w2 none)(hx:x.fr=[f])(hV:Full w2 b 115 (p.rg f.f*2) (p.rg f.f*2) (eC f.R))(hb:w.heap.size<=b)(ho:w6.ownsRow 0 167 8 (.slice (some ⟨tb,0,none⟩) (m.nt+1) tc) (m.nt+1) (rowP (m.nt*8) (tE m g)++[.slice (some ⟨w2.heap.size,0,none⟩) 1 1,iK x.how,iK x.into,iK x.what,iK x.km,iK x.ji,iK x.out.1,iK x.out.2]))(o:W.grownBy w6 (Value.slice (g.ro 1 0).1 m.nt (g.ro 1 0).2).ownBlock)(a6:jE W.heap.size (.slice (g.ro 1 0).1 m.nt (g.ro 1 0).2) (.slice (some ⟨tb,0,none⟩) (m.nt+1) tc))(hW:W.heap=((w2.alloc (.cells #[fC p f b 0,fC p f b 1,fC p f b 2,fC p f b 3] 163)).alloc o2).heap)(J:W.os=w2.os/\W.tape=w2.tape/\W.output=w2.output): ∃g1,Tr p m g w (m.jw x) g1 (w6.setCell ⟨g.mb,6,none⟩ (.slice (some ⟨tb,0,none⟩) (m.nt+1) tc))/\At m g g1:=by
 have h2:=h.kept Z;have a2:(Value.slice (g.ro 1 0).1 m.nt (g.ro 1 0).2).ownBlock=eO (g.ro 1 0).1:=dr _ _ _;rw[a2]at o;have a9:W.heap.size=w2.heap.size+2:=by rw[hW];simp
 have u:∀k,eO (g.ro 1 0).1=some k->k<w.heap.size/\k≠g.mb:=λk H=>⟨h.lt ⟨1,0,0,H⟩,h.ne (x:=1) (y:=0) (z:=0) (x':=0) (y':=0) (z':=0) rfl rfl H rfl (by omega)⟩;have aA:=Z.size;have Y:∀k,k<w2.heap.size->eO (g.ro 1 0).1≠some k->w6.heap[k]? = w2.heap[k]?:=λk H hn=>by
  rw[o.block k (by omega) (λe=>hn e.symm),hW,ak _ _ _ (by simp;omega),ak _ _ _ H]
 have a7:w6.heap[w2.heap.size]? = some (.cells #[fC p f b 0,fC p f b 1,fC p f b 2,fC p f b 3] 163 (0,0)):=by
  rw[o.block w2.heap.size (by omega) (λe=>by have:=(u _ e.symm).1;omega),hW,ak _ _ _ (by simp)];exact bf _ _
 have a5:g.mb<w2.heap.size:=h2.M.lt;have a0:=h2.M.block (Y g.mb a5 (λe=>(u _ e).2 rfl))
 have a1:=hV.block (Y b hV.lt (λe=>by have:=(u _ e).1;omega));have G:eO (g.ro 1 0).1=some tb\/W.heap.size<=tb:=by
  rcases a6 with e|⟨b',e1,e2⟩
  .left
   rw[<-a2,<-e];rfl
  right
  have:tb=b':=by injection e1
  omega
 have a4:tb≠g.mb:=by
  rcases G with e|e
  .exact(u _ e).2
  omega
 refine⟨_,h.jw hx (kb:=w2.heap.size) (vb:=b) (tb:=tb) (tc:=tc) (f:=f) (bm (S:=λk=>k=g.mb\/eO (g.ro 1 0).1=some k) (a:=⟨g.mb,6,none⟩) ⟨o.os.trans (J.1.trans Z.os),o.tape.trans (J.2.1.trans Z.tape),o.output.trans (J.2.2.trans Z.output),by have:=o.size;omega,λk H hn=>(Y k (by omega) (λe=>hn (ab e))).trans (Z.block k H (by intro e;cases e))⟩ (ag (ag rfl)) _) (a0.ep 6 _) ?_ ?_ ?_ (G.imp id (λe=>by omega)) (by omega) hb ?_ ?_ ?_,λt i ht=>ph _ _ (λe=>by omega),rfl⟩
 .exact dD ho (λk H=>af _ _ _ _ (by
   have:k=tb:=by simpa[Value.ownBlock] using H.symm
   rw[this];exact a4))
 .have hF:Full w6 w2.heap.size 163 4 4 (fC p f b):=⟨_,a7,rfl,λj hj=>by
   have hc:j=0\/j=1\/j=2\/j=3:=by omega
   rcases hc with rfl|rfl|rfl|rfl<;>rfl⟩
  exact hF.off (by omega)
 .exact a1.off (a1.ne a0 (by decide))
 .have:=hV.lt;omega
 .rcases G with e|e
  .have:=(u _ e).1;omega
  omega
 rcases G with e|e
 .have:=(u _ e).1;omega
 have:=hV.lt;omega
theorem GN{f:Nat}{u v:B.V}(h:dQ p m g w)(hf:f<p.nf)(hr:2<=p.rg f)(aT:p.rg f<=8)(hn:m.nt<1000000000)(hq:m.q.length<=1000000000): Calls prog 47 #[P0 g.mb,.int .i64 f,vA u,vA v] w λe w'=>e=.returned (.int .i64 ((m.nt:Int)+1))/\∃g',Tr p m g w (m.born f u v) g' w'/\At m g g':=by
 obtain⟨i0,hi,aL,aE,aC⟩:=info_parts Tryz.Fc;obtain⟨j0,i,aU,aM,aV⟩:=info_parts Tryz.qk;have c0:w.cell? ⟨g.mb,0,none⟩=some (.slice (some ⟨p.gb,0,none⟩) p.nf p.gc):=(h.mc 0 (by omega) rfl).1;have hP:=h.P.2.2;have c1:w.cell? ⟨p.gb,f*2,none⟩=some (.int .i64 (p.rg f:Int)):=by
  rw[hP.cell (f*2) (by omega)];unfold JC;rw[aj (by omega),show f*2 / 2=f by omega]
 have lm:g.mb<w.heap.size:=h.M.lt;have HR:=az h;have a5:Hid (∀w1,w.grownBy w1 none->Calls prog 74 #[P0 g.mb,.int .i64 f,vA u,vA v,.int .i64 0] w1 λe w'=>∃b,e=.returned (.agg #[.int .i64 f,.slice (some ⟨b,0,none⟩) (p.rg f) (p.rg f),.int .i64 0,.int .i64 0])/\w1.heap.size<=b/\Full w' b 115 (p.rg f*2) (p.rg f*2) (eC (gh u v))/\w1.grownBy w' none):=λw1 W=>xL ((bh W (a:=⟨g.mb,0,none⟩) lm).1.trans c0) ((bh W (a:=⟨p.gb,f*2,none⟩) hP.lt).1.trans c1) hf hr aT;obtain⟨u1,u2⟩:=u;obtain⟨v1,v2⟩:=v;clear h hP c0 c1;go_in;go_wp2_with fail
 refine(a5 _ (au (au (ax _ _) _) _)).mono ?_;rintro e w1 ⟨b,rfl,hb,hV,W⟩;have hg:w.grownBy w1 none:=an (au (au (ax _ _) _) _) W;have aQ:w.heap.size<=b:=by simp at hb;omega
 have HV:=az hV;have HG:=az hg;clear hV W hb a5;go_wp2_with fail
 have KG:Hid (w.grownBy (w1.alloc (.cells #[.int .i64 f,.slice (some ⟨b,0,none⟩) (p.rg f) (p.rg f),.int .i64 0,.int .i64 0] 163)) none):=au HG _;have Y:=bf w1 (.cells #[.int .i64 f,.slice (some ⟨b,0,none⟩) (p.rg f) (p.rg f),.int .i64 0,.int .i64 0] 163);have aB:Hid (Full (w1.alloc (.cells #[.int .i64 f,.slice (some ⟨b,0,none⟩) (p.rg f) (p.rg f),.int .i64 0,.int .i64 0] 163)) b 115 (p.rg f*2) (p.rg f*2) (eC (gh (u1,u2) (v1,v2)))):=HV.block (ak _ _ _ HV.lt);have aW:w1.heap.size<(w1.alloc (.cells #[.int .i64 f,.slice (some ⟨b,0,none⟩) (p.rg f) (p.rg f),.int .i64 0,.int .i64 0] 163)).heap.size:=by simp
 generalize w1.alloc (.cells #[.int .i64 f,.slice (some ⟨b,0,none⟩) (p.rg f) (p.rg f),.int .i64 0,.int .i64 0] 163)=w2 at *;have x0:w2.cell? ⟨w1.heap.size,0,none⟩=some (.int .i64 f):=by simp[World.cell?,Y]
 have x1:w2.cell? ⟨w1.heap.size,1,none⟩=some (.slice (some ⟨b,0,none⟩) (p.rg f) (p.rg f)):=by simp[World.cell?,Y]
 have x2:w2.cell? ⟨w1.heap.size,2,none⟩=some (.int .i64 0):=by simp[World.cell?,Y]
 have x3:w2.cell? ⟨w1.heap.size,3,none⟩=some (.int .i64 0):=by simp[World.cell?,Y]
 have Z:=az (HR.kept KG);obtain⟨c6,z6⟩:=Z.mc 6 (by omega) (v:=.slice (g.ro 1 0).1 m.nt (g.ro 1 0).2) rfl;have a6:=Z.M.lt;have HT:Hid (w2.ownsRow 0 167 8 (.slice (g.ro 1 0).1 m.nt (g.ro 1 0).2) m.nt (rowP (m.nt*8) (tE m g))):=Z.Tw;have a0:Hid (∀k,(Value.slice (g.ro 1 0).1 m.nt (g.ro 1 0).2).ownBlock=some k->k≠g.mb/\k<w2.heap.size):=λk hk=>⟨eL HT Z.M (by decide) k hk,(dA HT k hk).2.1⟩;clear Y aW;go_cut [] (λwx=>Hid (∃g1,Tr p m g w (m.jw ⟨[⟨f,0,gh (u1,u2) (v1,v2),(0,0,0,0)⟩],1,0,0,0,0,(0,0)⟩) g1 wx/\At m g g1))
 case first=>
  go_region_law (refine eS _ rfl (.tmp 19) (.tmp 23) 106 rfl 167 i0 _ 8 80 Tryz.underlying106 hi aL aE aC rfl (by decide) (g.ro 1 0).1 m.nt (g.ro 1 0).2 (rowP (m.nt*8) (tE m g)) (by first|rfl|simp[Act.eval,Act.put]) (dD HT (λk h=>(ak _ _ _ (by have:=(a0 k h).2;simp;omega)).trans (ak _ _ _ (a0 k h).2))) ⟨w2.heap.size+1,0,none⟩ 1 1 [.slice (some ⟨w2.heap.size,0,none⟩) 1 1,.int .i64 1,.int .i64 0,.int .i64 0,.int .i64 0,.int .i64 0,.int .i64 0,.int .i64 0] (by first|rfl|simp[Act.eval,Act.put]) rfl (by intro j u i;match j,i with|0,i=>(simp at i;subst i;simp[Addr.add,go_sem])|1,i=>(simp at i;subst i;simp[Addr.add,go_sem])|2,i=>(simp at i;subst i;simp[Addr.add,go_sem])|3,i=>(simp at i;subst i;simp[Addr.add,go_sem])|4,i=>(simp at i;subst i;simp[Addr.add,go_sem])|5,i=>(simp at i;subst i;simp[Addr.add,go_sem])|6,i=>(simp at i;subst i;simp[Addr.add,go_sem])|7,i=>(simp at i;subst i;simp[Addr.add,go_sem])) (by simp[Value.oneCell']) (by unfold maxLen;omega) (by omega) (by decide) ?_;intro v' w6 ho G a7;obtain⟨tb,tc,rfl⟩:=dM ho (by omega);have aI:=az ho;have a4:=az G;have aG:=az a7;have H:w6.heap[g.mb]? = w2.heap[g.mb]?:=((G.block g.mb (by first|(simp;omega)|simp) (λh=>(a0 _ h.symm).1 rfl)).trans ((ak _ _ _ (by first|(simp;omega)|simp)).trans (ak _ _ _ a6)));have d6:=(aw (a:=⟨g.mb,6,none⟩) H).trans c6;have y6:=(dg (a:=⟨g.mb,6,none⟩) H).trans z6;clear H ho G a7)
  all_goals
   go_wp2_with fail
   go_meet
   case rel=>
    exact Eu (x:=⟨[⟨f,0,gh (u1,u2) (v1,v2),(0,0,0,0)⟩],1,0,0,0,0,(0,0)⟩) (f:=⟨f,0,gh (u1,u2) (v1,v2),(0,0,0,0)⟩) HR KG rfl aB.out aQ aI.out a4.out aG.out rfl ⟨rfl,rfl,rfl⟩
 case rest=>
  have o:=hcut;obtain⟨g1,J,a9⟩:=o.out;have aK:=az a9;clear a9;obtain⟨aN,aH⟩:=J.r.mc 6 (by omega) (v:=.slice (g1.ro 1 0).1 (m.nt+1) (g1.ro 1 0).2) rfl;obtain⟨c7,z7⟩:=J.r.mc 7 (by omega) (v:=.slice (g1.ro 2 0).1 m.q.length (g1.ro 2 0).2) rfl;rw[J.b]at aN aH c7 z7;have HQ:Hid (fM wc 3 (.slice (g1.ro 2 0).1 m.q.length (g1.ro 2 0).2) (iI m.q)):=J.r.Q;have a1:=az J;have aD:g.mb<wc.heap.size:=by have:=J.r.M.lt;rw[J.b]at this;exact this
  have HK:Hid (∀k,(Value.slice (g1.ro 2 0).1 m.q.length (g1.ro 2 0).2).ownBlock=some k->k≠g.mb/\k<wc.heap.size):=λk hk=>by
   have aJ:eO (g1.ro 2 0).1=some k:=by rw[dr]at hk;exact hk
   refine⟨?_,HQ.out.lt k hk⟩;rw[<-a1.out.b];exact a1.out.r.ne (x:=2) (y:=0) (z:=0) (x':=0) (y':=0) (z':=0) rfl rfl aJ rfl (by omega)
  have aY:=iH m.q;clear J hcut o c6 z6 HT a0 Z aB x0 x1 x2 x3 a6;go_wp2_with fail
  go_cut [] (λwx=>Hid (∃g2,Tr p m g w (m.born f (u1,u2) (v1,v2)) g2 wx/\At m g g2))
  case first=>
   go_region_law (refine oz _ rfl (.tmp 31) (.tmp 37) 54 rfl 3 j0 _ 8 Tryz.g9 i aU aM aV rfl _ (iI m.q) (by first|rfl|simp[Act.eval,Act.put]) (HQ.out.block (λk h=>ak _ _ _ (HK.out k h).2)) ⟨wc.heap.size,0,none⟩ 1 (.int .i64 ((m.nt:Int)+1)) (by first|rfl|simp[Act.eval,Act.put]) (by simp[Addr.add,go_sem]) rfl (by unfold maxLen;omega) (by omega) ?_;intro gb aX c' w6 aA G a3;have aF:=az aA;have a4:=az G;have aS:=az a3;have H:w6.heap[g.mb]? = wc.heap[g.mb]?:=((G.block g.mb (by first|(simp;omega)|simp) (λh=>(HK.out _ h.symm).1 rfl)).trans (ak _ _ _ aD));have d7:=(aw (a:=⟨g.mb,7,none⟩) H).trans c7;have y7:=(dg (a:=⟨g.mb,7,none⟩) H).trans z7;clear H aA G a3)
   all_goals
    go_wp2_with fail
    go_meet
    case rel=>
     have hq:=aF.out;rw[iH]at hq;have h2:=Tr.qv (t:=m.nt+1) (a1.out.kept (bq (ah wc (.cells #[.int .i64 ((m.nt:Int)+1)] 3) none))) hq a4.out aS.out;rw[a1.out.b]at h2;exact⟨_,h2,aK.out⟩
  case rest=>
   have o:=hcut;obtain⟨g2,a2,a8⟩:=o.out;have aP:=az a8;clear a8;obtain⟨d6,_⟩:=a2.r.mc 6 (by omega) (v:=.slice (g2.ro 1 0).1 (m.nt+1) (g2.ro 1 0).2) rfl;rw[a2.b]at d6;have aR:=az a2;clear a2 hcut o;go_wp2_with fail
   go_ret;exact⟨rfl,g2,aR.out,aP.out⟩
end D
end Go.Proofs.YtnjiinbhbjpfkaaGreatDoor
