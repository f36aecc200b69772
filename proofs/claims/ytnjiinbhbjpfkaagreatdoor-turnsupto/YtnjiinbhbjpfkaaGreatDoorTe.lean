import Derived.Test.YtnjiinbhbjpfkaaGreatDoorTb
import Derived.Test.YtnjiinbhbjpfkaaGreatDoorTR
import Derived.Test.YtnjiinbhbjpfkaaGreatDoorTJ
import Derived.Test.YtnjiinbhbjpfkaaGreatDoorTP
set_option maxRecDepth 100000
set_option maxHeartbeats 0
set_option linter.all false
namespace Go.Proofs.YtnjiinbhbjpfkaaGreatDoor
open Go.RowKit Go.Proofs.Tryz
namespace D
open F
variable {p:Dp}{m m':Dm}{g g':Dg}{w w':aa}
theorem F5{rb k tb nt cap i how what:Nat}{into:Int}{Z J W Y:Value}(hk:k<nt)(hn:nt<1000000000)(hs:i<1000000000)(c6:w.cell? (ay rb 6)=some (dA tb nt cap))(o:w.cell? (ay rb 13)=some (aj i)/\w.frozen? (ay rb 13)=false)(y:w.cell? (ay tb (k*8+1))=some Z/\w.frozen? (ay tb (k*8+1))=false)(G:w.cell? (ay tb (k*8+2))=some J/\w.frozen? (ay tb (k*8+2))=false)(H:w.cell? (ay tb (k*8+3))=some W/\w.frozen? (ay tb (k*8+3))=false)(u:w.cell? (ay tb (k*8+5))=some Y/\w.frozen? (ay tb (k*8+5))=false)(ne:rb≠tb): eL 228 #[P0 rb,aj ((k:Int)+1),aj how,aj what,aj into] w λw'=>(((((w.setCell (ay rb 13) (jk ((i+1:Nat):Int))).setCell (ay tb (k*8+1)) (jk how)).setCell (ay tb (k*8+3)) (jk what)).setCell (ay tb (k*8+2)) (jk into)).setCell (ay tb (k*8+5)) (jk ((i+1:Nat):Int))).grownBy w' none:=by
 obtain⟨o,a0⟩:=o;obtain⟨y,z1⟩:=y;obtain⟨G,z2⟩:=G;obtain⟨H,z3⟩:=H;obtain⟨u,z5⟩:=u;have q5:=fj (n:=k) ag;have q6:IntKind.i64.wrap (k:Int)=k:=iU
 have q7:(0:Int)<=k:=ag
 have q8:(k:Int)<nt:=ag
 have q9:IntKind.i64.wrap ((i:Int)+1)=(i:Int)+1:=iU
 delta eL;go_in;go_wp2
 go_region
 all_goals
  go_wp2
  go_end0;refine⟨rfl,?_⟩;first
   | exact aw _ _
   | exact bo (aw _ _)
   | exact df (aw _ _) _
def Dl{t how what:Nat}{into:Int}(h:dZ p m g w)(ht:mY m t)(hn:m.nt<1000000000)(hs:m.jw<1000000000): eL 228 #[P0 g.mb,aj (t:Int),aj (how:Int),aj (what:Int),aj into] w λw'=>Tr p m g w (m.wait t how what into) g w':=by
 obtain⟨k,rfl⟩:∃k,t=k+1:=⟨t-1,ag⟩;obtain⟨tb,W,hT,tc⟩:=h.tc ht;have Y:w.cell? ⟨g.mb,6,none⟩=some (.slice (some ⟨tb,0,none⟩) m.nt (g.ro 1 0).2):=by
  rw[show some (⟨tb,0,none⟩:Addr)=(g.ro 1 0).1 by rw[W]];exact(h.mc 6 ag rfl).1
 refine(F5 (how:=how) (what:=what) (into:=into) ag hn hs Y (h.mc 13 ag rfl) (tc.c 1 ag) (tc.c 2 ag) (tc.c 3 ag) (tc.c 5 ag) (h.M.ne hT ek)).mono ?_;rintro e w' ⟨rfl,hg⟩;refine⟨rfl,Tr.kept ?_ hg⟩;have G:Tr p m g w { m with jw:=m.jw+1 } g (w.setCell ⟨g.mb,13,none⟩ (jk ((m.jw+1:Nat):Int))):=h.yh 13 _ ⟨rfl,rfl,rfl,rfl,rfl,rfl,rfl,rfl⟩ (λi hi=>by
  by_cases e:i=13
  .subst e;rfl
  rw[au e];unfold mE;rw[au e,au e];rfl)
 have step:∀{m1:Dm} {w1:aa} (j:Nat) (v:Value) (x:Dt),j<8->dZ p m1 g w1->mY m1 (k+1)->x.fr=(m1.T (k+1)).fr->(∀i,i<8->tC x (je m1 g 5 (k+1)) i=if i=j then v else tC (m1.T (k+1)) (je m1 g 5 (k+1)) i)->Tr p m1 g w1 (m1.dx (k+1) x) g (w1.setCell ⟨tb,k*8+j,none⟩ v):=λj v x Z hr hd hf hE=>hr.sK hd W j Z v hf hE;have o:∀i:Nat,i<8->i=0\/i=1\/i=2\/i=3\/i=4\/i=5\/i=6\/i=7:=λi hi=>by omega
 have J:=step 1 (jk how) { m.T (k+1) with how:=how } ag G.r ht rfl (λi hi=>by rcases o i hi with rfl|rfl|rfl|rfl|rfl|rfl|rfl|rfl<;>rfl);have y:=step 3 (jk what) { m.T (k+1) with how:=how,what:=what } ag J.r ht (by rw[gi]) (λi hi=>by rw[gi];rcases o i hi with rfl|rfl|rfl|rfl|rfl|rfl|rfl|rfl<;>rfl);rw[jQ]at y;have u:=step 2 (jk into) { m.T (k+1) with how:=how,what:=what,into:=into } ag y.r ht (by rw[gi]) (λi hi=>by rw[gi];rcases o i hi with rfl|rfl|rfl|rfl|rfl|rfl|rfl|rfl<;>rfl);rw[jQ]at u;have H:=step 5 (jk ((m.jw+1:Nat):Int)) ((m.T (k+1)).wt how what into (m.jw+1)) ag u.r ht (jx gi) (λi hi=>by rw[gi];rcases o i hi with rfl|rfl|rfl|rfl|rfl|rfl|rfl|rfl<;>rfl);rw[jQ]at H;exact(((G.trans J).trans y).trans u).trans H
def Tryz.sr:(prog.info? 3).map (λi=>(i.zero,i.size,i.bytes))=some (some (aj 0),1,8):=by kernel_rfl
def Tryz.jh:prog.underlying 54=some (.slice 3):=by kernel_rfl
def IN(w:aa)(tb k ql qc:Nat)(qa:Option Addr)(xs:List Value)(w6:aa)(b off c:Nat):Prop:=
 ∃o1 o2 o3,gd w6 3 (.slice (some ⟨b,off,none⟩) (xs.length+1) c) (xs++[.int .i64 ((k:Int)+1)])/\((((w.setCell ⟨tb,k*8+1,none⟩ (.int .i64 1)).alloc o1).alloc o2).alloc o3).grownBy w6 (Value.slice qa ql qc).ownBlock/\((Value.slice qa ql qc).ownBlock=some b\/b=w.heap.size+1+1+1)
theorem Cj{rb tb cap k nt fl fc G u:Nat}{fa y:Option Addr}{v0 v1:Int}{x:Dt}{xs:List Value}(hk:k<nt)(hn:nt<1000000000)(hx:xs.length<=1000000000)(c6:w.cell? (ay rb 6)=some (dA tb nt cap))(q7:w.cell? (ay rb 7)=some (.slice y G u)/\w.frozen? (ay rb 7)=false)(i:∀j,j<8->w.cell? (ay tb (k*8+j))=some (tC x (.slice fa fl fc) j)/\w.frozen? (ay tb (k*8+j))=false)(hQ:gd w 3 (.slice y G u) xs)(ne:rb≠tb)(H:∀j,(Value.slice y G u).ownBlock=some j->j≠rb/\j≠tb)(a6:x.into<0): eL 144 #[P0 rb,aj ((k:Int)+1),.agg #[aj v0,aj v1]] w λw'=>∃b off c o,IN w tb k G u y xs o b off c/\w'=o.setCell (ay rb 7) (.slice (some (ay b off)) (xs.length+1) c):=by
 obtain⟨i0,hi,a2,a1,a0⟩:=info_parts Tryz.sr;obtain⟨q7,z7⟩:=q7;have z1:=(i 1 ag).2;have lr:=an w _ c6;have c1:w.cell? (ay tb (k*8+1))=some (aj x.how):=(i 1 ag).1;have lt:=an w _ c1;have Z:∀j,(Value.slice y G u).ownBlock=some j->j≠rb/\j≠tb/\j<w.heap.size:=λj h=>⟨(H j h).1,(H j h).2,hQ.lt j h⟩;have HQ:=bj hQ;have HK:=bj Z;have c0:w.cell? (ay tb (k*8))=some (.slice fa fl fc):=(i 0 ag).1;have c2:w.cell? (ay tb (k*8+2))=some (aj x.into):=(i 2 ag).1;have c3:w.cell? (ay tb (k*8+3))=some (aj x.what):=(i 3 ag).1;have c4:w.cell? (ay tb (k*8+4))=some (aj x.lH):=(i 4 ag).1;have c5:w.cell? (ay tb (k*8+5))=some (aj x.jw):=(i 5 ag).1;have a5:w.cell? (ay tb (k*8+6))=some (aj x.out.1):=(i 6 ag).1;have c7:w.cell? (ay tb (k*8+7))=some (aj x.out.2):=(i 7 ag).1;clear i hQ H Z;have q5:=fj (n:=k) ag;have a4:(0:Int)<=k:=ag
 have q8:(k:Int)<nt:=ag
 have a3:¬(0<=x.into):=ag
 delta eL;go_in;go_wp2_with (at_builtin;refine jf _ rfl (.tmp 27) (.tmp 29) 54 rfl 3 i0 _ 8 Tryz.jh hi a2 a1 a0 rfl _ xs rfl (HQ.block ?cq) _ _ (aj ((k:Int)+1)) rfl ?c1 rfl ?c3 ?c4 ?_)
 case cq=>
  intro j h;obtain⟨k1,k2,k3⟩:=HK j h;grind[Below.heap_alloc,Below.heap_setCell]
 try case c1=>simp[go_sem]
 try case c3=>unfold maxLen;omega
 try case c4=>omega
 intro g off c o hq W J;have KR:Hid (IN w tb k G u y xs o g off c):=⟨_,_,_,hq,W,J⟩;have f2:o.cell? (ay (w.heap.size+1) 2)=some (aj x.into):=by
  rw[az (W.block (w.heap.size+1) eB (λh=>by have:=(HK _ h.symm).2.2;omega))];simp[go_sem]
 have b0:o.heap[rb]? = w.heap[rb]?:=by rw[W.block rb fH (λh=>(HK rb h.symm).1 rfl),av _ _ _ fH,av _ _ _ fH,av _ _ _ fH,ab _ _ _ _ ne]
 have d7:=(az (a:=ay rb 7) b0).trans q7;have e7:=(dr (a:=ay rb 7) b0).trans z7
 go_wp2_with fail
 go_end0;exact⟨rfl,g,off,c,o,KR,rfl⟩
theorem zU{rb tb cap k nt f fc J G fb r vb rl rc:Nat}{H:Option Addr}{v0 v1:Int}{x:Dt}{xs:List Value}{o8 o9:Value}(hk:k<nt)(hn:nt<1000000000)(hx:xs.length<=1000000000)(c6:w.cell? (ay rb 6)=some (dA tb nt cap))(q7:w.cell? (ay rb 7)=some (.slice H J G)/\w.frozen? (ay rb 7)=false)(o:∀j,j<8->w.cell? (ay tb (k*8+j))=some (tC x (dA fb (f+1) fc) j)/\w.frozen? (ay tb (k*8+j))=false)(hQ:gd w 3 (.slice H J G) xs)(ne:rb≠tb)(y:∀j,(Value.slice H J G).ownBlock=some j->j≠rb/\j≠tb/\j≠vb/\j≠fb)(a2:x.into=(r:Int))(Z:w.cell? (ay fb (f*4+1))=some (dA vb rl rc))(a5:fb≠tb/\fb≠rb)(nv:vb≠rb/\vb≠tb/\vb≠fb)(a0:w.cell? (ay vb (r*2))=some o8/\w.frozen? (ay vb (r*2))=false)(a4:w.cell? (ay vb (r*2+1))=some o9/\w.frozen? (ay vb (r*2+1))=false)(hr:r<rl)(hf:f<=100000): eL 144 #[P0 rb,aj ((k:Int)+1),.agg #[aj v0,aj v1]] w λw'=>∃b off c i,IN w tb k J G H xs i b off c/\(((i.setCell (ay rb 7) (.slice (some (ay b off)) (xs.length+1) c)).setCell (ay vb (r*2)) (aj v0)).setCell (ay vb (r*2+1)) (aj v1)).grownBy w' none:=by
 obtain⟨i0,hi,aA,a9,aB⟩:=info_parts Tryz.sr;obtain⟨q7,z7⟩:=q7;have z1:=(o 1 ag).2;have lr:=an w _ c6;have c1:w.cell? (ay tb (k*8+1))=some (aj x.how):=(o 1 ag).1;have lt:=an w _ c1;have a7:∀j,(Value.slice H J G).ownBlock=some j->j≠rb/\j≠tb/\j<w.heap.size/\j≠vb/\j≠fb:=λj h=>⟨(y j h).1,(y j h).2.1,hQ.lt j h,(y j h).2.2⟩;have HQ:=bj hQ;have Y:=bj a7;have lv:=an w _ a0.1;have lf:=an w _ Z;have c0:w.cell? (ay tb (k*8))=some (dA fb (f+1) fc):=(o 0 ag).1;have c2:w.cell? (ay tb (k*8+2))=some (aj r):=by rw[<-a2];exact(o 2 ag).1
 have c3:w.cell? (ay tb (k*8+3))=some (aj x.what):=(o 3 ag).1;have c4:w.cell? (ay tb (k*8+4))=some (aj x.lH):=(o 4 ag).1;have c5:w.cell? (ay tb (k*8+5))=some (aj x.jw):=(o 5 ag).1;have aJ:w.cell? (ay tb (k*8+6))=some (aj x.out.1):=(o 6 ag).1;have c7:w.cell? (ay tb (k*8+7))=some (aj x.out.2):=(o 7 ag).1;have aC:=bj Z;have a1:=bj a0;have a8:=bj a4;clear o hQ y a7 a2 Z a0 a4;have q5:=fj (n:=k) ag;have aG:(0:Int)<=k:=ag
 have q8:(k:Int)<nt:=ag
 have aO:(r:Int)<rl:=ag
 delta eL;go_in;go_wp2_with (at_builtin;refine jf _ rfl (.tmp 27) (.tmp 29) 54 rfl 3 i0 _ 8 Tryz.jh hi aA a9 aB rfl _ xs rfl (HQ.out.block ?cq) _ _ (aj ((k:Int)+1)) rfl ?c1 rfl ?c3 ?c4 ?_)
 case cq=>
  intro j h;obtain⟨k1,k2,k3,_⟩:=Y.out j h;grind[Below.heap_alloc,Below.heap_setCell]
 try case c1=>simp[go_sem]
 try case c3=>unfold maxLen;omega
 try case c4=>omega
 intro g off c i hq W a3;have KR:Hid (IN w tb k J G H xs i g off c):=⟨_,_,_,hq,W,a3⟩;have a6:=W.size;have u:∀j,j<w.heap.size->j≠tb->(Value.slice H J G).ownBlock≠some j->i.heap[j]? = w.heap[j]?:=λj hj h1 h2=>by rw[W.block j fH (λh=>h2 h.symm),av _ _ _ fH,av _ _ _ fH,av _ _ _ fH,ab _ _ _ _ h1]
 have b0:=u rb lr ne (λh=>(Y.out rb h).1 rfl);have b2:=u vb lv nv.2.1 (λh=>(Y.out vb h).2.2.2.1 rfl);have b3:=u fb lf a5.1 (λh=>(Y.out fb h).2.2.2.2 rfl);have d7:=(az (a:=ay rb 7) b0).trans q7;have e7:=(dr (a:=ay rb 7) b0).trans z7;have g1:i.cell? (ay fb (f*4+1))=some (dA vb rl rc):=(az (a:=ay fb (f*4+1)) b3).trans aC.out;have aD:=(az (a:=ay vb (r*2)) b2).trans a1.1;have aI:=(dr (a:=ay vb (r*2)) b2).trans a1.2;have aE:=(az (a:=ay vb (r*2+1)) b2).trans a8.1;have aN:=(dr (a:=ay vb (r*2+1)) b2).trans a8.2;have f2:i.cell? (ay (w.heap.size+1) 2)=some (aj r):=by
  rw[az (W.block (w.heap.size+1) eB (λh=>by have:=(Y _ h.symm).2.2.1;omega))];simp[go_sem]
 have f0:i.cell? (ay (w.heap.size+1) 0)=some (dA fb (f+1) fc):=by
  rw[az (W.block (w.heap.size+1) eB (λh=>by have:=(Y _ h.symm).2.2.1;omega))];simp[go_sem]
 have aK:i.cell? (ay w.heap.size 0)=some (aj v0):=by
  rw[az (a:=ay w.heap.size 0) (W.block w.heap.size fH (λh=>by have:=(Y _ h.symm).2.2.1;omega))];simp[go_sem]
 have aF:i.cell? (ay w.heap.size 1)=some (aj v1):=by
  rw[az (a:=ay w.heap.size 1) (W.block w.heap.size fH (λh=>by have:=(Y _ h.symm).2.2.1;omega))];simp[go_sem]
 have n7:¬(rb=vb):=λe=>nv.1 e.symm;clear hq W a3 b0 b2 b3 a6 u;have aL:IntKind.i64.wrap ((f:Int)+1-1)=(f:Int):=fj ag;have aM:(f:Int)<f+1:=ag
 have aH:(0:Int)<=f:=ag
 go_wp2_with fail
 go_region
 all_goals
  go_wp2_with fail
  go_end0;refine⟨rfl,g,off,c,i,KR,?_⟩;first
   | exact aw _ _
   | exact bo (aw _ _)
   | exact df (aw _ _) _
   | exact⟨rfl,rfl,rfl,bq _,λ_ _ _=>rfl⟩
theorem jC(l:List Nat):(jJ l).length=l.length:=by grind[jJ,List.length_map]
def zV{t:Nat}(v:B.V)(h:dZ p m g w)(ht:mY m t)(hn:m.nt<1000000000)(hq:m.q.length<=1000000000)(a5:0<=(m.T t).into->(m.T t).fr.length≠0/\(m.T t).fr.length<=20/\(m.T t).into.toNat<p.rg (pS m t).f): eL 144 #[P0 g.mb,aj t,vA v] w λw'=>∃g',Tr p m g w (m.ready t v) g' w':=by
 obtain⟨k,rfl⟩:∃k,t=k+1:=⟨t-1,ag⟩;obtain⟨tb,e1,hT,tc⟩:=h.tc ht;have c6:w.cell? ⟨g.mb,6,none⟩=some (.slice (some ⟨tb,0,none⟩) m.nt (g.ro 1 0).2):=by
  rw[show some (⟨tb,0,none⟩:Addr)=(g.ro 1 0).1 by rw[e1]];exact(h.mc 6 ag rfl).1
 have a8:(je m g 2 0).ownBlock=fi (g.ro 2 0).1:=dF _ _ _;have u:∀j,(je m g 2 0).ownBlock=some j->(ok p m g 2 0 0).bs j:=λj o=>by rw[a8]at o;exact o
 have v0:vd p m 0 0 0=true:=rfl;have v1:vd p m 1 0 0=true:=rfl;have W:vd p m 2 0 0=true:=rfl;have b0:(ok p m g 0 0 0).bs g.mb:=rfl;have G:(ok p m g 1 0 0).bs tb:=by
  show fi (g.ro 1 0).1=some tb;rw[e1];rfl
 have ne:=h.M.ne hT ek;have cs:∀i:Nat,i<8->i=0\/i=1\/i=2\/i=3\/i=4\/i=5\/i=6\/i=7:=λi hi=>by omega
 have h1:Tr p m g w (m.dx (k+1) ((m.T (k+1)).hw 1)) g (w.setCell ⟨tb,k*8+1,none⟩ (aj 1)):=h.sK ht e1 1 ag _ rfl (λi hi=>by rcases cs i hi with rfl|rfl|rfl|rfl|rfl|rfl|rfl|rfl<;>rfl);have vr:∀b off c H,IN w tb k m.q.length (g.ro 2 0).2 (g.ro 2 0).1 (jJ m.q) H b off c->Tr p m g w (m.vr (k+1)) (g.at 2 0 (some ⟨b,off,none⟩,c)) (H.setCell ⟨g.mb,7,none⟩ (.slice (some ⟨b,off,none⟩) (m.q.length+1) c)):=λb off c H hR=>by
  obtain⟨o1,o2,o3,r1,r2,r3⟩:=hR;rw[jC]at r1;exact Tr.sE (t:=k+1) (((h1.kept (ak _ o1 none)).kept (ak _ o2 none)).kept (ak _ o3 none)) r1 r2 (r3.imp id (λe=>by rw[e];simp))
 have Z:(jJ m.q).length<=1000000000:=eV jC hq;by_cases hi:0<=(m.T (k+1)).into
 .obtain⟨f1,f2,f3⟩:=a5 hi;obtain⟨a4,fb,n,T⟩:=h.top ht f1;have a7:a4=tb:=by
   have:=T.b;rw[e1]at this;injection this with this _;injection this with this;injection this with this _;exact this.symm
  subst a7;have a1:qd m (k+1)=n:=by unfold qd;rw[T.l];omega
  have a3:pS m (k+1)=fU m (k+1) n:=by unfold pS;rw[a1]
  rw[a3]at f3;have J:n<(m.T (k+1)).fr.length:=kr T.l
  have a2:=h.R ht J;have y:(ok p m g 6 (k+1) n).bs (g.rb (k+1) n):=rfl;have a0:(ok p m g 5 (k+1) 0).bs fb:=by
   show fi (g.ro 5 (k+1)).1=some fb;rw[T.a];rfl
  have v5:=rP (p:=p) (m:=m) ht.1 ht.2;have v6:=zI (p:=p) (m:=m) ht.1 ht.2 J;refine(zU (fc:=(g.ro 5 (k+1)).2) (x:=m.T (k+1)) (r:=(m.T (k+1)).into.toNat) (v0:=(v.1:Int)) (v1:=v.2) (xs:=jJ m.q) ag hn Z c6 (h.mc 7 ag rfl) (λj o=>?_) h.Q ne (λj o=>⟨h.ne W v0 (u j o) b0 ag,h.ne W v1 (u j o) G ag,h.ne W v6 (u j o) y ag,h.ne W v5 (u j o) a0 ag⟩) ag T.k1 ⟨T.n2.symm,T.n1.symm⟩ ⟨h.ne v6 v0 y b0 ag,h.ne v6 v1 y G ag,h.ne v6 v5 y a0 ag⟩ (a2.cells _ ag) (a2.cells _ ag) f3 ag).mono ?_
  .have:=tc.c j o;have hs:je m g 5 (k+1)=.slice (some ⟨fb,0,none⟩) (n+1) (g.ro 5 (k+1)).2:=by
    show Value.slice (g.ro 5 (k+1)).1 (m.T (k+1)).fr.length _=_;rw[T.a,T.l]
   rw[hs]at this;exact this
  rintro e w' ⟨rfl,b,off,c,H,hR,hg⟩;rw[jC]at hg;have h2:=vr b off c H hR;have Y:((m.vr (k+1)).T (k+1))=(m.T (k+1)).hw 1:=gi _ _ _;have a6:fU (m.vr (k+1)) (k+1) n=fU m (k+1) n:=by unfold fU;rw[Y];rfl
  have h3:=h2.r.se (t:=k+1) (i:=n) ht (eV Y J) (m.T (k+1)).into.toNat v;refine⟨rfl,g.at 2 0 (some ⟨b,off,none⟩,c),?_⟩;unfold Dm.ready;rw[bf hi,a1,a3];rw[a6]at h3;exact(h2.trans h3).kept hg
 refine(Cj (x:=m.T (k+1)) (v0:=(v.1:Int)) (v1:=v.2) (xs:=jJ m.q) ag hn Z c6 (h.mc 7 ag rfl) (λj o=>tc.c j o) h.Q ne (λj o=>⟨h.ne W v0 (u j o) b0 ag,h.ne W v1 (u j o) G ag⟩) ag).mono ?_;rintro e w' ⟨rfl,b,off,c,H,hR,rfl⟩;refine⟨rfl,g.at 2 0 (some ⟨b,off,none⟩,c),?_⟩;unfold Dm.ready;rw[au hi,jC];exact vr b off c H hR
end D
namespace F
variable {g:eJ}{p:dL}{s:Pl}{t:Nat}{w:aa}
def qA.stop(v:qA):qA:={ v with run:=false }
def Pl.eo(s:Pl)(v:B.V):List Nat->Pl
 | []=>s
 | t :: l=>(s.gn t v).eo v l
def Pl.gone(s:Pl)(t:Nat)(v:B.V)(kind:Nat)(x:Int):Pl:=(({ (s.dz t).dx t ((s.dz t).T t).stop with lv:=s.lv.erase t }:Pl).mX (t-1) v).told kind t x
def Pl.leave(s:Pl)(t:Nat)(v:B.V)(kind:Nat)(x:Int):Pl:=(s.gone t v kind x).eo v (s.q 5 t)
theorem sJ(v:B.V):∀(l m:List Nat) (s:Pl),s.eo v (l++m)=(s.eo v l).eo v m
 | [],_,_=>rfl
 | _ :: l,m,_=>sJ v l m _
theorem g8(s:Pl)(t:Nat):(s.dz t).lv=s.lv/\(s.dz t).out=s.out/\(s.dz t).kp=s.kp/\(s.dz t).ev=s.ev/\(s.dz t).ft=s.ft/\(s.dz t).sp=s.sp/\(s.dz t).clk=s.clk/\(s.dz t).kd=s.kd/\(s.dz t).M=s.M/\(s.dz t).ck=s.ck:=by
 unfold Pl.dz;split<;>exact⟨rfl,rfl,rfl,rfl,rfl,rfl,rfl,rfl,rfl,rfl⟩
theorem nH(s:Pl){u:Nat}(v:B.V)(kind:Nat)(x:Int)(h:u≠t):(s.gone t v kind x).T u=s.T u:=by
 show((s.dz t).dx t _).T u=_;grind[dR,uy]
def jL(s:Pl)(t:Nat)(v:B.V)(kind:Nat)(x:Int):(s.gone t v kind x).nt=s.nt:=gg s t
theorem pO(s:Pl)(t:Nat)(v:B.V)(kind:Nat)(x:Int)(u:Nat):((s.gone t v kind x).T u).wh=((s.dz t).T u).wh:=by
 show(((s.dz t).dx t _).T u).wh=_;by_cases e:u=t
 .subst e;rw[di];rfl
 grind[dR]
def LW.gone(h:LW s)(ht:fm s t)(v:B.V)(kind:Nat)(x:Int):LW (s.gone t v kind x):=(h.dz ht).same rfl rfl (λu=>pO s t v kind x u)
def Ar(h:LW s)(ht:fm s t)(v:B.V)(kind:Nat)(x:Int):(s.gone t v kind x).q 5 t=s.q 5 t:=by
 show(s.dz t).q 5 t=_;exact sm s (λe=>(h.a t ht 5 t e).2.2 ⟨rfl,rfl⟩)
theorem WW.gone(h:WW p s)(v:B.V)(kind:Nat)(x:Int):WW p (s.gone t v kind x):=by
 intro u y a b i o;by_cases e:u=t
 .grind[pO,ke]
 rw[nH s v kind x e]at i ⊢;have:=h u ((ey (jL s t v kind x)).1 y) a b i o;grind[gD,nH]
theorem IX{x y:Nat}(hw:(s.T t).wh=some (x,y))(v:B.V)(o:(s.T t).lf≠none)(i:¬(x=2/\y=0)):(s.gn t v).q x y=(s.q x y).erase t:=by
 cases hk:(s.T t).lf with
 | none=>grind
 | some k=>
  rw[pB v hk];show(((s.dJ t (de s t) ((dq s t (de s t)).set k.2.1 v)).dz t).fF 2 0 _).q x y=_;rw[fY _ _ (λe=>i e),gJ (x:=x) (y:=y) (by grind[gI])];exact gH _ _ _ _
theorem mx{f:Nat->Nat}:∀(l:List Nat),l.Nodup->(∀a,a∈l->∀b,b∈l->f a=f b->a=b)->(l.map f).Nodup
 | [],_,_=>List.nodup_nil
 | a :: l,hd,h=>by
  rw[List.map_cons,List.nodup_cons];rw[List.nodup_cons]at hd;refine⟨λu=>?_,mx l hd.2 (λa o b i=>h a (by simp[o]) b (by simp[i]))⟩;grind
theorem Ag(v:B.V)(kind:Nat)(x:Int)(h:dZ p s g w)(hW:LW s)(bD:WW p s)(ht:fm s t)(aH:t∈s.lv)(bB:s.lv.Nodup)(aE:∀u,u∈s.lv->fm s u)(ho:s.out.length=s.nt)(hk:s.kp.length<=1000000)(bG:s.ev.length<=100000): eL 175 #[P0 p.eb,P0 (g.tb t),vA v,aj kind,aj x] w λw'=>∃g',Tr p s g w (s.leave t v kind x) g' w':=by
 have hd:=hW.d;have bN:s.lv.length<=500000000:=dU (gK s.nt s.lv bB aE) hd;have b4:∀{w1:aa} {s1:Pl} {g1:eJ} {w2:aa},w.grownBy w1 none->zB w1 w.heap.size (g.tb t) v->Tr p s g w1 s1 g1 w2->zB w2 w.heap.size (g.tb t) v/\¬eH p s1 g1 w.heap.size/\¬eH p s1 g1 (w.heap.size+1):=λhg hL h2=>by
  have a:=h2.other hL.1 (λhm=>by have:=h.lt hm;omega);have b:=h2.other hL.2 (λhm=>by have:=h.lt hm;omega);exact⟨⟨a.1,b.1⟩,a.2,b.2⟩
 have hS:∀{s1 s2:Pl} {g1 g2:eJ} {w1 w2:aa},(zB w1 w.heap.size (g.tb t) v/\¬eH p s1 g1 w.heap.size/\¬eH p s1 g1 (w.heap.size+1))->Tr p s1 g1 w1 s2 g2 w2->(zB w2 w.heap.size (g.tb t) v/\¬eH p s2 g2 w.heap.size/\¬eH p s2 g2 (w.heap.size+1)):=λi h2=>by
  have a:=h2.other i.1.1 i.2.1;have b:=h2.other i.1.2 i.2.2;exact⟨⟨a.1,b.1⟩,a.2,b.2⟩
 let s1:=s.dz t
 let s1':=s1.dx t (s1.T t).stop
 let s2:Pl:={ s1' with lv:=s.lv.erase t }
 let s3:=s2.mX (t-1) v
 have hn1:s1.nt=s.nt:=gg s t;have aU:=(ey hn1).2 ht;have b8:s3.nt=s.nt:=hn1;have a8:s1.lv=s.lv:=(g8 s t).1
 obtain⟨G,cl,a6⟩:∃G cl,g.ro 6 0=(some (ay G 0),cl):=by
  obtain⟨G,cl,he⟩:=ee (h.row (x:=6) (y:=0) (by grind[fe]) (iV ag)) (by show s.lv.length≠0;grind);grind[sl,Prod.ext]
 let S1:aa->Prop:=λw1=>Tr p s g w s1 g w1/\(zB w1 w.heap.size (g.tb t) v/\¬eH p s1 g w.heap.size/\¬eH p s1 g (w.heap.size+1))
 let S2:Value->aa->Prop:=λlv w2=>lv=dA G (s.lv.length-1) cl/\∃w1,Tr p s g w s1' g w1/\(zB w1 w.heap.size (g.tb t) v/\¬eH p s1' g w.heap.size/\¬eH p s1' g (w.heap.size+1))/\w1.grownBy w2 (some G)/\w2.ownsRow 0 155 1 (dA G (s.lv.length-1) cl) (s.lv.length-1) (((s.lv.erase t).map g.tb).map P0)
 let S3:aa->Prop:=λw3=>∃g3,Tr p s g w s3 g3 w3/\g3.tb=g.tb/\g3.sx=g.sx/\(zB w3 w.heap.size (g.tb t) v/\¬eH p s3 g3 w.heap.size/\¬eH p s3 g3 (w.heap.size+1))
 have flag:∀w1,S1 w1->Tr p s g w s1' g (w1.setCell (ay (g.tb t) 2) (.bool false))/\(zB (w1.setCell (ay (g.tb t) 2) (.bool false)) w.heap.size (g.tb t) v/\¬eH p s1' g w.heap.size/\¬eH p s1' g (w.heap.size+1)):=by
  rintro w1 ⟨Z,aO⟩;have h2:Tr p s1 g w1 s1' g (w1.setCell (ay (g.tb t) 2) (.bool false)):=by
   refine Z.r.flag aU rfl rfl ?_ (bp (S:=λk=>k=g.tb t) (dw _ _) (af rfl) _);refine((Z.r.tk aU).eC 2 (.bool false)).congr (λj hj=>?_);have aC:(s1.dx t (s1.T t).stop).T t=(s1.T t).stop:=di _ _ _;have hc:=oU 6 j ag
   have bE:sl (s1.dx t (s1.T t).stop) g 12 t=sl s1 g 12 t:=by unfold sl;rw[jY,jY,aC];rfl
   rcases hc with rfl|rfl|rfl|rfl|rfl|rfl|rfl
   .rfl
   .exact bE.symm
   .show Value.bool false=Value.bool ((s1.dx t (s1.T t).stop).T t).run;rw[aC];rfl
   .show wF p g (s1.T t).wh=wF p g ((s1.dx t (s1.T t).stop).T t).wh;rw[aC];rfl
   .show yL g t (s1.T t).lf=yL g t ((s1.dx t (s1.T t).stop).T t).lf;rw[aC];rfl
   .show Value.int .i64 (s1.T t).iM=Value.int .i64 ((s1.dx t (s1.T t).stop).T t).iM;rw[aC];rfl
   rfl
  exact⟨Z.trans h2,hS aO h2⟩
 have aK:∀lv w2,S2 lv w2->Tr p s g w s2 (g.at 6 0 (some (ay G 0),cl)) (w2.setCell (ay p.eb 29) lv)/\(zB (w2.setCell (ay p.eb 29) lv) w.heap.size (g.tb t) v/\¬eH p s2 (g.at 6 0 (some (ay G 0),cl)) w.heap.size/\¬eH p s2 (g.at 6 0 (some (ay G 0),cl)) (w.heap.size+1)):=by
  rintro lv w2 ⟨rfl,w1,Z,aO,aP,bC⟩;have b6:=eU bC (Z.r.E.block (aP.block _ Z.r.E.lt (λe=>by
   injection e with e;have a7:=Z.r.row (x:=6) (y:=0) (by unfold fe;omega) (iV ag);unfold sl at a7;rw[a6]at a7;exact eU a7 Z.r.E ek G rfl e.symm))) ek G rfl
  have b9:eS s2 6 0=s.lv.length-1:=List.length_erase_of_mem aH;have h2:Tr p s1' g w1 s2 (g.at 6 0 (some (ay G 0),cl)) (w2.setCell (ay p.eb 29) (dA G (s.lv.length-1) cl)):=by
   refine Z.r.uS (j0:=29) ag (iV ag) ek rfl rfl rfl rfl rfl rfl rfl (λa b c d e=>?_) ?_ ?_ ?_ (λk hk=>af (eV a6 hk))
   .have ea:a≠6:=ag;exact⟨by unfold eS;simp only[au ea];rfl,by unfold gu;simp only[au ea];rfl⟩
   .rw[b9];exact (Z.r.E.block (aP.block _ Z.r.E.lt (λe=>by injection e with e;exact b6 e.symm))).eC 29 _
   .rw[b9];exact dQ bC (λk hk=>ab _ _ _ _ (by
     have e:G=k:=by injection hk
     rw[<-e];exact b6))
   refine bp (jB aP (ah (jx a6))) (af (af rfl)) _
  exact⟨Z.trans h2,hS aO h2⟩
 let s4:=s3.told kind t x
 have aW:LW s4:=hW.gone ht v kind x;have aX:WW p s4:=bD.gone v kind x;obtain⟨aS,b3⟩:∃aS:Nat->Nat,∀u,fm s u->aS (g.tb u)=g.sx u:=by
  classical
  refine⟨λb=>if i:∃u,fm s u/\g.tb u=b then g.sx i.choose else 0,λu hu=>?_⟩;have i:∃u',fm s u'/\g.tb u'=g.tb u:=⟨u,hu,rfl⟩;show(if i:∃u',fm s u'/\g.tb u'=g.tb u then g.sx i.choose else 0)=g.sx u;rw[dif_pos i,h.mC i.choose_spec.1 hu i.choose_spec.2]
 let I:List Nat->aa->Prop:=λbs w4=>∃H ys g4,bs=ys.map g.tb/\s.q 5 t=H++ys/\Tr p s g w (s4.eo v H) g4 w4/\g4.tb=g.tb/\g4.sx=g.sx/\LW (s4.eo v H)/\WW p (s4.eo v H)/\(s4.eo v H).q 5 t=ys/\(s4.eo v H).nt=s.nt/\(zB w4 w.heap.size (g.tb t) v/\¬eH p (s4.eo v H) g4 w.heap.size/\¬eH p (s4.eo v H) g4 (w.heap.size+1))
 have aG:∀{s':Pl},s'.nt=s.nt->fN s' 5 t:=λe=>ah (ah (ah ⟨rfl,(ey e).2 ht⟩));refine(JE p.eb (g.tb t) kind t s.lv.length cl x v (some (ay G 0)) S1 S3 S2 I aS ((s.q 5 t).map g.tb) w ?_ ?_ ?_ ?_ ?_ ?_ ?_ ?_ ?_).mono ?_
 .intro w1 hg hL;refine du (qL (h.kept hg) hW ht) λw2 h2=>?_;exact⟨rfl,h2.ahead hg,b4 hg hL h2⟩
 .intro w1 Z;have hf:=flag w1 Z;refine⟨Z.2.1,⟨_,Z.1.r.tk aU⟩,?_,Z.1.r.E.lt⟩;rw[hf.1.r.E.cell 29 ag];show some (sl s1' g 6 0)=_;unfold sl;rw[a6];show some (Value.slice _ s1.lv.length _)=_;rw[a8]
 .intro w1 Z;obtain⟨a5,Y⟩:=flag w1 Z;generalize w1.setCell (ay (g.tb t) 2) (.bool false)=W at *;have hr:=a5.r.row (x:=6) (y:=0) (by unfold fe;omega) (iV ag);have bF:W.ownsRow 0 155 1 (dA G s.lv.length cl) s.lv.length ((s.lv.map g.tb).map P0):=by
   have e1:sl s1' g 6 0=dA G s.lv.length cl:=by unfold sl;rw[a6];show Value.slice _ s1.lv.length _=_;rw[a8]
   have e2:eS s1' 6 0=s.lv.length:=(by show s1.lv.length=_;rw[a8]);have e3:gu s1' g 6 0=(s.lv.map g.tb).map P0:=by show(s1.lv.map g.tb).map P0=_;rw[a8]
   rw[e1,e2,e3]at hr;exact hr
  have aJ:s1'.nt=s.nt:=hn1;refine(Ly G cl s.lv.length (g.tb t) w.heap.size (s.lv.map g.tb) W bF ag (mx _ bB (λa ha b i e=>h.mC (aE a ha) (aE b i) e)) ?_ (ch Y.1.1) (λe=>Y.2.1 ⟨6,0,0,?_⟩) (a5.r.tk ((ey aJ).2 ht)).zq (λz hz=>?_) (List.mem_map_of_mem aH)).mono ?_
  .have:=Y.1.1;simp[World.cell?,this]
  .rw[gQ p g (by unfold fe;omega) (iV ag),a6,e];rfl
  .obtain⟨u,hu,rfl⟩:=eK.1 hz;exact(a5.r.tk ((ey aJ).2 (aE u hu))).zq
  rintro e w2 ⟨rfl,k1,k2⟩;rw[sw _ (λb i e=>h.mC (aE b i) ht e)]at k1;exact⟨_,_,_,rfl,rfl,W,a5,Y,k2,k1⟩
 .intro lv w2 h2;obtain⟨a5,Y⟩:=aK lv w2 h2;obtain⟨_,w1,k1,_,k3,_⟩:=h2;have hT:=a5.r.tk (t:=t) ((ey (s:=s) hn1).2 ht);refine⟨Y.1,⟨iH p s1' g,k1.r.E.block (k3.block _ k1.r.E.lt (λe=>?_))⟩,hT.cell 0 ag,?_⟩
  .injection e with e;have a7:=k1.r.row (x:=6) (y:=0) (by unfold fe;omega) (iV ag);unfold sl at a7;rw[a6]at a7;exact eU a7 k1.r.E ek G rfl e.symm
  have bA:g.tb t<(w2.setCell (ay p.eb 29) lv).heap.size:=hT.lt;simpa[World.setCell] using bA
 .intro lv w2 w3 h2 aL;obtain⟨a5,Y⟩:=aK lv w2 h2;have h3:=a5.kept aL;have aN:zB w3 w.heap.size (g.tb t) v/\¬eH p s2 (g.at 6 0 (some (ay G 0),cl)) w.heap.size/\¬eH p s2 (g.at 6 0 (some (ay G 0),cl)) (w.heap.size+1):=
   ⟨⟨da aL Y.1.1 im,da aL Y.1.2 im⟩,Y.2⟩
  have b1:s2.out.length=s.nt:=by show s1.out.length=_;rw[(g8 s t).2.1,ho]
  have bM:s2.kp.length=s.kp.length:=by show s1.kp.length=_;rw[(g8 s t).2.2.1]
  have bK:(t:Int)=((t-1:Nat):Int)+1:=gp ht.1;rw[bK];refine du (LP (j:=t-1) v h3.r (by rw[b1];have:=ht.2;omega) (kr b1) (eV bM hk)) ?_;rintro w4 ⟨r,h4⟩;exact⟨rfl,_,h3.trans h4,rfl,rfl,hS aN h4⟩
 .rintro w3 ⟨g3,_,_,_,i⟩;exact i.1
 .rintro w3 ⟨g3,h3,a1,b0,aN⟩;have b2:s3.ev.length<=100000:=by show s1.ev.length<=_;rw[(g8 s t).2.2.2.1];exact bG
  have o:=DC (t:=t) kind x h3.r ((ey b8).2 ht) b2;rw[a1]at o;refine du o ?_;rintro w4 ⟨r,h4⟩;exact⟨rfl,[],s.q 5 t,g3.at 9 0 r,rfl,rfl,h3.trans h4,a1,b0,aW,aX,Ar hW ht v kind x,b8,hS aN h4⟩
 .rintro bs w4 ⟨H,ys,g4,rfl,a9,a0,a1,a4,aA,a2,hq,J,i⟩;have b7:=(ey J).2 ht;have aM:=a0.r.tk b7;rw[a1]at aM;have hr:=a0.r.row (x:=5) (y:=t) (by unfold fe;omega) (iE ag b7);have aY:eS (s4.eo v H) 5 t=ys.length:=by rw[nV _ (aG J),hq]
  have bJ:gu (s4.eo v H) g4 5 t=(ys.map g.tb).map P0:=by rw[pr _ _ (aG J),hq,a1]
  have aQ:w4.cell? (ay (g.tb t) 6)=some (sl (s4.eo v H) g4 5 t):=aM.cell 6 ag;refine⟨i.1,aM.lt,λw5 hg=>⟨H,ys,g4,rfl,a9,a0.kept hg,a1,a4,aA,a2,hq,J,⟨da hg i.1.1 im,da hg i.1.2 im⟩,i.2⟩,λe=>?_,λy r e=>?_⟩
  .have hy:=List.map_eq_nil_iff.1 e;refine⟨(g4.ro 5 t).1,(g4.ro 5 t).2,?_⟩;rw[aQ];unfold sl;rw[aY,hy];rfl
  cases ys with
  | nil=>cases e
  | cons u us=>
   rw[List.map_cons]at e;injection e with e1 e2;subst e1 e2;have aB:u∈(s4.eo v H).q 5 t:=by rw[hq];simp
   obtain⟨a3,aF⟩:=aA.b 5 t (aG J) u aB;obtain⟨k,aD,aV,aZ⟩:=a2 u a3 5 t aF (ah rfl);have hu:=(ey J).1 a3;rw[aY,bJ]at hr;obtain⟨qb,qc,he⟩:=ee hr eB;have aT:=a0.r.tk a3;rw[a1]at aT;rw[he]at hr aQ;refine⟨qb,qc,?_,?_,?_,aT.lt⟩
   .rw[ef];exact aQ
   .exact(gZ hr).2.2.2.2.2 0 _ rfl
   rw[aT.cell 4 ag];show some (yL g4 u ((s4.eo v H).T u).lf)=_;rw[aD,b3 u hu,<-a4];rfl
 .rintro y r w4 ⟨H,ys,g4,he,a9,a0,a1,a4,aA,a2,hq,J,i⟩
  cases ys with
  | nil=>cases he
  | cons u us=>
   rw[List.map_cons]at he;injection he with e1 e2;subst e1 e2;have aB:u∈(s4.eo v H).q 5 t:=by rw[hq];simp
   obtain⟨a3,aF⟩:=aA.b 5 t (aG J) u aB;obtain⟨k,aD,aV,aZ⟩:=a2 u a3 5 t aF (ah rfl);have hu:=(ey J).1 a3;have o:=Il v a0.r aA a3 aD aV aZ (by rw[aF];intro e;injection e with e;injection e with e _;omega);rw[a4]at o;rw[b3 u hu];refine du o ?_;rintro w5 ⟨r,h5⟩;have hw:s4.eo v (H++[u])=(s4.eo v H).gn u v:=sJ v H [u] s4;refine⟨rfl,H++[u],us,g4.at 2 0 r,rfl,by rw[a9,fS];rfl,by rw[hw];exact a0.trans h5,a1,a4,by rw[hw];exact aA.gn a3 v,by rw[hw];exact a2.gn v (by rw[aD];intro e;cases e),?_,by rw[hw,oq];exact J,by rw[hw];exact hS i h5⟩;rw[hw,IX aF v (by rw[aD];intro e;cases e) ag,hq];simp
 rintro e w' ⟨rfl,H,ys,g4,he,a9,a0,_⟩;have hy:=List.map_eq_nil_iff.1 he.symm;refine⟨rfl,g4,?_⟩;rw[hy,gS]at a9;unfold Pl.leave;rw[a9];exact a0
def Fix(p:dL)(w:aa):Prop:=∀b,p.fx b->w.heap[b]? = p.fc b
structure PW(p:dL):Prop where
 n1:1<=p.n
 n2:p.n<=200
 e0:p.E0 0=.slice (some ⟨p.gb,0,none⟩) p.nf p.nf
 e1:p.E0 1=.int .i64 p.qn
 e2:p.E0 2=.int .i64 p.wk
 e3:p.E0 3=.int .i64 p.mt
 Hn:p.E0 27=P0 p.sb
 gb:p.fx p.gb
 tab:∀w,Fix p w->∀f,f<p.nf->w.cell? ⟨p.gb,f*2,none⟩=some (.int .i64 (p.rg f))/\w.cell? ⟨p.gb,f*2+1,none⟩=some (.slice (some ⟨p.cb f,0,none⟩) (p.len f) (p.len f))
 rg:∀f,f<p.nf->2<=p.rg f/\p.rg f<=8
 ea:∀o,o<23->p.E0 (4+o)=(tw p.ac).getD o undef
 bx:∀w,Fix p w->∀j,j<32->w.cell? ⟨p.ac+j,0,none⟩=some ((nJ p.ac).getD j (undef,0)).1/\w.heap[p.ac+j]? = some (.cells #[((nJ p.ac).getD j (undef,0)).1] ((nJ p.ac).getD j (undef,0)).2 (0,0))
 cd:∀w,Fix p w->∀f,f<p.nf->p.cb f<w.heap.size/\∀i,i<p.len f->w.cell? ⟨p.cb f,i*4,none⟩=some (.int .u8 (p.ins f i).1)/\w.cell? ⟨p.cb f,i*4+1,none⟩=some (.int .u8 (p.ins f i).2.1)/\w.cell? ⟨p.cb f,i*4+2,none⟩=some (.int .u8 (p.ins f i).2.2.1)/\w.cell? ⟨p.cb f,i*4+3,none⟩=some (.int .u8 (p.ins f i).2.2.2)
 le:∀f,f<p.nf->p.len f<=200
def dZ.fix(h:dZ p s g w):Fix p w:=λb e=>(h.X b e).2
theorem Fe{f:Nat}{k:Fn}{ka kc:Array Value}(bk:Nat×Nat×Nat×Nat)(u v:B.V)(h:dZ p s g w)(hP:PW p)(ht:fm s t)(J:(s.T t).lf=none)(i:f<p.nf)(hm:(s.T t).fr.length<=1000)(H:.func k ka kc=xM p g t (s.T t).fr.length bk): eL 119 #[P0 p.eb,P0 (g.tb t),aj f,vA u,vA v,.func k ka kc] w λw'=>∃fb rb r,Tr p s g w (s.push t ⟨f,0,ig u v,bk⟩) (g.push t (s.T t).fr.length fb rb r) w':=by
 have Z:=h.E;obtain⟨h1,h2⟩:=hP.tab w h.fix f i;have h0:w.cell? (ay p.eb 0)=some (dA p.gb p.nf p.nf):=by
  rw[Z.cell 0 ag];show some (p.E0 0)=_;rw[hP.e0]
 refine du (JZ p.eb (g.tb t) p.gb p.nf (p.cb f) (p.len f) (p.rg f) f (s.T t).fr.length (g.ro 12 t).2 (g.ro 12 t).1 _ k ka kc u v (gz p s g t) w h0 h1 h2 (h.tk ht) rfl (h.row (x:=12) (y:=t) (by grind[fe]) (iE ag ht)) hm Z.lt (h.X _ hP.gb).1 i (hP.rg f i).1 (hP.rg f i).2) ?_;rintro w' ⟨Y,G,fb,rb,k1,k2,W,k4,k5,k6,k7⟩;refine⟨rfl,fb,rb,(some (ay Y 0),G),h.push (f:=⟨f,0,ig u v,bk⟩) ht J k1 k2 ?_ W.2.1 (k6.mono (λk o _=>?_)) k4 k5 (λk o=>?_)⟩
 .rw[<-H];exact W.1
 .grind[kC]
 have e:Y=k:=by injection o
 grind[kC]
def Pl.back(s:Pl)(t:Nat)(v:B.V):Pl:=if de s t=0 then(s.pop t).leave t v 2 v.2 else(s.pop t).dJ t (de s t-1) ((dq s t (de s t-1)).set (dq s t (de s t)).bk.2.1 v)
theorem wY(s:Pl)(t u:Nat):((s.pop t).T u).wh=(s.T u).wh/\((s.pop t).T u).lf=(s.T u).lf:=by
 by_cases e:u=t
 .subst e;unfold Pl.pop;rw[di];exact⟨rfl,rfl⟩
 grind[Pl.pop,dR]
theorem LW.pop(h:LW s)(t:Nat):LW (s.pop t):=h.same rfl rfl (λu=>(wY s t u).1)
theorem WW.pop{p:dL}{s:Pl}(h:WW p s){t:Nat}(hw:(s.T t).wh=none):WW p (s.pop t):=by
 intro u G a b i o;rw[(wY s t u).1]at i;have e:u≠t:=λe=>by grind
 have y:(s.pop t).T u=s.T u:=dR _ _ e;have:=h u G a b i o;grind[gD]
theorem tG(s:Pl)(t:Nat):((s.pop t).T t).fr.length=(s.T t).fr.length-1:=by unfold Pl.pop;rw[di];exact eY
theorem vZ(v:B.V)(h:dZ p s g w)(hW:LW s)(aB:WW p s)(ht:fm s t)(aG:(s.T t).lf=none)(aE:(s.T t).wh=none)(aA:(s.T t).fr≠[])(hm:(s.T t).fr.length<=1000)(aD:t∈s.lv)(a9:s.lv.Nodup)(aF:∀u,u∈s.lv->fm s u)(ho:s.out.length=s.nt)(hk:s.kp.length<=1000000)(aC:s.ev.length<=100000)(a8:de s t≠0->(dq s t (de s t)).bk.2.1<p.rg (dq s t (de s t-1)).f): eL 107 #[P0 (g.tb t),vA v] w λw'=>∃g',Tr p s g w (s.back t v) g' w':=by
 have a4:(s.T t).fr.length≠0:=λe=>aA (db.1 e);obtain⟨m,a1⟩:∃m,(s.T t).fr.length=m+1:=⟨(s.T t).fr.length-1,ag⟩;have H:de s t=m:=by unfold de;omega
 have hr:=h.row (x:=12) (y:=t) (by grind[fe]) (iE ag ht);have hF:=h.fr ht (i:=m) ag;obtain⟨kb,ck,he⟩:=ee hr (by grind[jY]);have a2:g.ro 12 t=(some (ay kb 0),ck):=by
  unfold sl at he;injection he with a b c;exact fV a c
 rw[he,jY,m8,a1,gm,gR,gR]at hr;have a7:gz p s g t 1=dA kb (m+1) ck:=by
  show sl s g 12 t=_;rw[he,jY,a1]
 have G:∀w2,NU w w2 (g.tb t) kb ck m (((List.range m).map (g.fb t)).map P0) (gz p s g t)->Tr p s g w (s.pop t) g w2:=λw2 hp=>by
  obtain⟨k1,k2,k3⟩:=hp;refine h.pop ht aG a1 ?_ ?_ (k3.mono (λk hk _=>?_))
  .grind
  .grind
  rw[a2];exact hk.imp id (λe=>by rw[e];rfl)
 unfold Pl.back;rw[H];by_cases h0:m=0
 .rw[bf h0];have Y:xM p g t m (dq s t m).bk=Fv 120 #[P0 (g.xe t),P0 (g.xt t)]:=by unfold xM;rw[bf h0]
  unfold zD at hF;rw[Y]at hF;refine wa (g.tb t) kb ck m (g.fb t m) _ _ _ _ _ _ v _ _ (af ⟨g.xe t,g.xt t,rfl,rfl,rfl⟩) _ (gz p s g t) (λw'=>∃g',Tr p s g w ((s.pop t).leave t v 2 v.2) g' w') w (h.tk ht) a7 ag hr hF ?_;intro w2 a0;have W:=G w2 a0;have o:fm (s.pop t) t:=ht;have a5:=W.r.xe o;have a3:=W.r.xt o;refine Ic p.eb (g.tb t) (g.xe t) (g.xt t) v _ w2 (fy a5) (fy a3) (ch a5) (ch a3) ?_;intro w3 a6;refine du (Ag v 2 v.2 (W.r.kept a6) (hW.pop t) (aB.pop aE) o aD a9 aF ho hk aC) ?_;rintro w4 ⟨g',h4⟩;exact⟨rfl,g',(W.kept a6).trans h4⟩
 rw[au h0];have Y:xM p g t m (dq s t m).bk=.func (.func 149) #[ed (dq s t m).bk.1 (dq s t m).bk.2.1 (dq s t m).bk.2.2.1 (dq s t m).bk.2.2.2 (g.fb t (m-1)) (g.tb t) p.eb] #[]:=by unfold xM;rw[au h0]
 unfold zD at hF;rw[Y]at hF;refine wa (g.tb t) kb ck m (g.fb t m) _ _ _ _ _ _ v _ _ (ah ⟨_,_,_,_,g.fb t (m-1),p.eb,rfl,rfl,rfl⟩) _ (gz p s g t) (λw'=>∃g',Tr p s g w ((s.pop t).dJ t (m-1) ((dq s t (m-1)).set (dq s t m).bk.2.1 v)) g' w') w (h.tk ht) a7 ag hr hF ?_;intro w2 a0;have W:=G w2 a0;have o:fm (s.pop t) t:=ht;have J:dq (s.pop t) t (m-1)=dq s t (m-1):=pJ s (λ_=>by omega);have hb:=a8 ag;rw[H]at hb;refine du (se (t:=t) (i:=m-1) (a:=(dq s t m).bk.2.1) (dq s t m).bk.1 (dq s t m).bk.2.2.1 (dq s t m).bk.2.2.2 (g.tb t) p.eb v W.r o (kr tG) (eV J hb)) λw3 h3=>?_;rw[J]at h3;exact⟨rfl,g,W.trans h3⟩
def Mf{why:Nat}(hw:why<=8)(h:dZ p s g w)(hW:LW s)(o:WW p s)(ht:fm s t)(G:t∈s.lv)(H:s.lv.Nodup)(J:∀u,u∈s.lv->fm s u)(Z:s.out.length=s.nt)(Y:s.kp.length<=1000000)(y:s.ev.length<=100000): eL 187 #[P0 p.eb,P0 (g.tb t),aj why] w λw'=>∃g',Tr p s g w (s.leave t (0,-(why:Int)) 3 why) g' w':=by
 refine Mh p.eb (g.tb t) why hw _ w (λw1 i=>?_);refine du (Ag (0,-(why:Int)) 3 why (h.kept i) hW o ht G H J Z Y y) ?_;rintro w2 ⟨g',W⟩;exact⟨rfl,g',W.ahead i⟩
def Fg(h:dZ p s g w)(hW:LW s)(o:WW p s)(ht:fm s t)(G:t∈s.lv)(H:s.lv.Nodup)(J:∀u,u∈s.lv->fm s u)(Z:s.out.length=s.nt)(Y:s.kp.length<=1000000)(y:s.ev.length<=100000): eL 172 #[P0 p.eb,P0 (g.tb t)] w λw'=>∃g',Tr p s g w (s.leave t (0,-100) 4 0) g' w':=by
 refine Fh p.eb (g.tb t) _ w (λw1 i=>?_);refine du (Ag (0,-100) 4 0 (h.kept i) hW o ht G H J Z Y y) ?_;rintro w2 ⟨g',W⟩;exact⟨rfl,g',W.ahead i⟩
end F
namespace D
open F
variable {p:Dp}{m m':Dm}{g g':Dg}{w w':aa}
def Et(p:Dp)(m:Dm)(g:Dg)(t:Nat)(x:Dt)(r:Option Addr×Nat):mE p (m.dx t x) (g.at 5 t r)=mE p m g:=by
 have o:∀a b,a≠5->je (m.dx t x) (g.at 5 t r) a b=je m g a b:=λa b u=>by
  rw[pe _ _ _ (λe=>u e.1)];unfold je sg;rw[au u,au u];rfl
 funext i
 unfold mE;rw[o 1 0 ek,o 2 0 ek,o 10 _ ek,o 3 0 ek,o 4 0 ek];rfl
def DH(m:Dm)(g:Dg){t:Nat}(ht:1<=t)(l:List jc)(r:Option Addr×Nat)(i:Nat):tE (m.dx t ((m.T t).mz l)) (g.at 5 t r) i=if i=(t-1)*8 then .slice r.1 l.length r.2 else tE m g i:=by
 unfold tE;by_cases e:i / 8+1=t
 .rw[e,gi];by_cases o:i=(t-1)*8
  .rw[bf o,show i % 8=0 by omega];show Value.slice ((g.at 5 t r).ro 5 t).1 ((m.dx t ((m.T t).mz l)).T t).fr.length ((g.at 5 t r).ro 5 t).2=_;rw[wv,gi];rfl
  rw[au o];have u:¬i % 8=0:=ag
  unfold tC;rw[au u,au u];rfl
 rw[eD,fW _ _ e];have:je (m.dx t ((m.T t).mz l)) (g.at 5 t r) 5 (i / 8+1)=je m g 5 (i / 8+1):=by
  rw[pe _ _ _ (λy=>e y.2)];unfold je;show Value.slice _ ((m.dx t _).T _).fr.length _=Value.slice _ (m.T _).fr.length _;rw[fW _ _ e]
 rw[this]
theorem CZ(p:Dp)(m:Dm){g:Dg}{tb c:Nat}(i:g.ro 1 0=(some (ay tb 0),c))(k:Nat):(ok p m g 1 0 0).bs k↔k=tb:=by
 show fi (g.ro 1 0).1=some k↔k=tb;rw[i];show some tb=some k↔k=tb;grind
theorem dZ.shrink(h:dZ p m g w){t:Nat}(ht:mY m t){tb:Nat}(hb:g.ro 1 0=(some (ay tb 0),(g.ro 1 0).2)){j:Nat}(hj:j<=(m.T t).fr.length){r:Option Addr×Nat}(hr:r=g.ro 5 t\/(r=(none,0)/\j=0)):Tr p m g w (m.dx t ((m.T t).mz ((m.T t).fr.take j))) (g.at 5 t r) (w.setCell (ay tb ((t-1)*8)) (.slice r.1 j r.2)):=by
 have:=ht.1;have:=ht.2;have W:((m.T t).fr.take j).length=j:=kr List.length_take
 have H:(m.dx t ((m.T t).mz ((m.T t).fr.take j))).T t=(m.T t).mz ((m.T t).fr.take j):=gi _ _ _;have Y:∀y z,(y=t->z<j)->fU (m.dx t ((m.T t).mz ((m.T t).fr.take j))) y z=fU m y z:=λy z a3=>by
  unfold fU;by_cases e:y=t
  .subst e;rw[H];show((m.T y).fr.take j).getD z n6=_;grind
  grind[fW]
 have a2:∀x y z,¬(x=6/\y=t/\j<=z)->vd p (m.dx t ((m.T t).mz ((m.T t).fr.take j))) x y z=vd p m x y z:=λx y z hC=>by
  unfold vd;by_cases e:x=6
  .subst e;show decide (1<=y/\y<=m.nt/\z<((m.dx t ((m.T t).mz ((m.T t).fr.take j))).T y).fr.length)=decide (1<=y/\y<=m.nt/\z<(m.T y).fr.length);by_cases e2:y=t
   .subst e2;rw[H];apply decide_eq_decide.2
    show(1<=y/\y<=m.nt/\z<((m.T y).fr.take j).length)↔_;omega
   grind[fW]
  rw[au e,au e];rfl
 obtain⟨b,u,h1,h2,h3⟩:=h.T ag;have a6:b=tb:=by rw[hb]at u;injection u with u;injection u with u _;exact u.symm
 subst a6;refine h.to (λx y z=>(x=1/\y=0/\z=0)\/(x=5/\y=t/\z=0)\/(x=6/\y=t/\j<=z)) (λ_=>(1,0,0)) (bp (S:=λk=>∃x y z,((x=1/\y=0/\z=0)\/(x=5/\y=t/\z=0)\/(x=6/\y=t/\j<=z))/\(ob p m g x y z).bs k) (a:=ay b ((t-1)*8)) (dw _ _) (af ⟨1,0,0,af ⟨rfl,rfl,rfl⟩,((CZ p m hb) b).2 rfl⟩) _) (λx y z hC=>kT (a2 x y z (λe=>hC (ah (ah e)))) (λhv=>?_)) ?_ ?_
 .refine ok_eq (e0:=λ_=>⟨rfl,Et p m g t _ r⟩) (er:=λa4=>?_) (eq:=λe=>⟨rp g _ ag,?_,?_⟩) (e6:=λe=>?_) (hx:=l9 hv)
  .have a0:x≠1:=λe=>hC (af ⟨e,kS hv ag⟩);have h5:¬(x=5/\y=t):=λe=>hC (ah (af ⟨e.1,e.2,by grind[vG]⟩));refine⟨rp g _ h5,?_,?_⟩
   .unfold sg;by_cases e5:x=5
    .grind[fW]
    rw[au e5,au e5];rfl
   unfold rC;rw[au a0,au a0];by_cases e3:x=3
   .rw[bf e3,bf e3];rfl
   rw[au e3,au e3];by_cases e4:x=4
   .rw[bf e4,bf e4];rfl
   rw[au e4,au e4];have e5:x=5:=by unfold FX at a4;omega
   have a1:y≠t:=λe=>h5 ⟨e5,e⟩;rw[fW _ _ a1];exact jA (λi _=>by unfold fE;rw[Y y _ (λe=>dp e a1)];rfl)
  .unfold sg;rcases e with rfl|rfl<;>rfl
  .rcases e with rfl|rfl<;>rfl
  subst e;rw[Y y z (λe=>by
   omega)]
  exact⟨rfl,rfl,rfl⟩
 .rintro x y z (⟨rfl,rfl,rfl⟩|⟨rfl,rfl,rfl⟩|⟨rfl,rfl,hz⟩)
  .show World.ownsRow _ 0 167 8 (.slice ((g.at 5 t r).ro 1 0).1 m.nt ((g.at 5 t r).ro 1 0).2) m.nt (rowP (m.nt*8) (tE (m.dx t ((m.T t).mz ((m.T t).fr.take j))) (g.at 5 t r)));rw[rp g r ag,u];exact nZ h1 h2 ((h3.eC _ _).congr (λi hi=>by rw[DH m g ht.1,W];rfl))
  .have o:vd p (m.dx y ((m.T y).mz ((m.T y).fr.take j))) 5 y 0=true:=rP ht.1 ht.2;rw[ie o];show World.ownsRow _ 0 163 4 (.slice ((g.at 5 y r).ro 5 y).1 ((m.dx y ((m.T y).mz ((m.T y).fr.take j))).T y).fr.length ((g.at 5 y r).ro 5 y).2) ((m.dx y ((m.T y).mz ((m.T y).fr.take j))).T y).fr.length (rowP (((m.dx y ((m.T y).mz ((m.T y).fr.take j))).T y).fr.length*4) (fE p (m.dx y ((m.T y).mz ((m.T y).fr.take j))) (g.at 5 y r) y));rw[wv,H];show World.ownsRow _ 0 163 4 (.slice r.1 ((m.T y).fr.take j).length r.2) ((m.T y).fr.take j).length (rowP (((m.T y).fr.take j).length*4) _);rw[W];have Z:rowP (j*4) (fE p (m.dx y ((m.T y).mz ((m.T y).fr.take j))) (g.at 5 y r) y)=rowP (j*4) (fE p m g y):=jA (λi hi=>by unfold fE;rw[Y y _ (λ_=>by omega)];rfl);rw[Z];have hF:=h.Fw ht;rcases hr with rfl|⟨rfl,rfl⟩
   .by_cases h0:(m.T y).fr.length=0
    .obtain rfl:j=0:=by omega
     have a8:w.ownsRow 0 163 4 (.slice (g.ro 5 y).1 0 (g.ro 5 y).2) 0 (rowP (0*4) (fE p m g y)):=by
      have:=hF;unfold je at this;rw[show sg m 5 y=(m.T y).fr.length from rfl,h0]at this;exact this
     exact dQ a8 (λk J=>ab _ _ _ _ ((λk J=>eU hF h3 ek k J) k (by rw[dF]at J;unfold je;rw[dF];exact J)))
    obtain⟨fb,f0,f1,f2,f3⟩:=h.F ht h0;rw[f0];exact nZ ag f2 ((Full.down f3 ag).off (h3.ne f3 ek).symm)
   exact⟨rfl,af ⟨rfl,rfl⟩⟩
  have o:¬vd p (m.dx y ((m.T y).mz ((m.T y).fr.take j))) 6 y z=true:=λo=>by
   have:=(xQ o).2.2;rw[H]at this;have h':z<((m.T y).fr.take j).length:=this;omega
  rw[A7 o];trivial
 rintro x y z k (⟨rfl,rfl,rfl⟩|⟨rfl,rfl,rfl⟩|⟨rfl,rfl,hz⟩) J
 .left
  have G:fi ((g.at 5 t r).ro 1 0).1=some k:=J;rw[rp g r ag]at G;exact G
 .left
  rw[ie (m:=m.dx y ((m.T y).mz ((m.T y).fr.take j))) (rP ht.1 ht.2)]at J;rw[ie (rP ht.1 ht.2)];have G:fi ((g.at 5 y r).ro 5 y).1=some k:=J;rw[wv]at G;rcases hr with rfl|⟨rfl,_⟩
  .exact G
  cases G
 exfalso
 have o:¬vd p (m.dx y ((m.T y).mz ((m.T y).fr.take j))) 6 y z=true:=λo=>by
  have:=(xQ o).2.2;rw[H]at this;have h':z<((m.T y).fr.take j).length:=this;omega
 rw[A7 o]at J;exact J
def Tryz.tM:(prog.info? 115).map (λi=>(i.zero,i.size,i.bytes))=some (some (.agg #[aj 0,aj 0]),2,16):=by kernel_rfl
def Tryz.underlying161:prog.underlying 161=some (.slice 115):=by kernel_rfl
theorem uD{w:aa}{g b e:Nat}(h:w.ownsRow e 115 2 (dA g b b) b (madeCells #[aj 0,aj 0] (b*2)).toList):Full w g 115 (b*2) (b*2) (eQ (λ_=>(0,0))):=by
 rcases h.2 with⟨h,_⟩|⟨g',u,i,H,h2,Y,h4,Z,J,W⟩
 .cases h
 cases H;refine⟨i,Y,J,λj y=>?_⟩;have o:=congrArg (λl=>l[j]?) W;have G:(madeCells #[aj 0,aj 0] (b*2)).toList[j]? = some (aj 0):=by
  simp only[madeCells,Array.getElem?_toList,Array.getElem?_map,Array.getElem?_range];rw[bf y];have:j % 2=0\/j % 2=1:=by omega
  rcases this with h|h<;>simp[h]
 simp only[G,dO]at o;rw[bf y]at o;grind[nR]
theorem ze{rb gb nf gc f r0:Nat}{u v:B.V}{into:Int}(h0:w.cell? (ay rb 0)=some (dA gb nf gc))(h1:w.cell? (ay gb (f*2))=some (aj r0))(hf:f<nf)(hr:2<=r0)(aE:r0<=8): Calls prog 74 #[P0 rb,aj f,vA u,vA v,aj into] w λe w'=>∃b,e=.returned (.agg #[aj f,dA b r0 r0,aj 0,aj into])/\w.heap.size<=b/\Full w' b 115 (r0*2) (r0*2) (eQ (ig u v))/\w.grownBy w' none:=by
 obtain⟨u1,Z⟩:=u;obtain⟨v1,v2⟩:=v;obtain⟨i0,hi,a4,a3,a2⟩:=info_parts Tryz.tM;have a9:(f:Int)<nf:=ag
 have lr:rb<w.heap.size:=an w _ h0;have lg:gb<w.heap.size:=an w _ h1;have a8:rb<w.heap.size+1:=ag
 have aD:rb<w.heap.size+1+1:=ag
 have aB:gb<w.heap.size+1:=ag
 have aC:gb<w.heap.size+1+1:=ag
 go_in;go_wp2_with (at_make;go_loud (refine wpList_make_full _ rfl _ _ 161 rfl 0 115 i0 _ 2 Tryz.underlying161 hi a4 a3 _ _ _ _ r0 rfl rfl rfl rfl eR pY (dk _) ?_))
 intro i Y G;have y:=uD Y;have J:∀j o,j<w.heap.size+3->(((w.alloc (.cells #[aj u1,aj Z] 115)).alloc (.cells #[aj v1,aj v2] 115)).alloc (.cells #[aj 0,.slice none 0 0,aj 0,aj 0] 163)).heap[j]? = some o->i.heap[j]? = some o:=λj o hj ho=>da G ho eR;have s1:(w.alloc (.cells #[aj u1,aj Z] 115)).heap.size=w.heap.size+1:=eB
 have s2:((w.alloc (.cells #[aj u1,aj Z] 115)).alloc (.cells #[aj v1,aj v2] 115)).heap.size=w.heap.size+1+1:=eB
 have x0:=J w.heap.size (.cells #[aj u1,aj Z] 115 (0,0)) ag (by grind[Below.heap_alloc,heap_alloc_new]);have x1:=J (w.heap.size+1) (.cells #[aj v1,aj v2] 115 (0,0)) ag (by grind[Below.heap_alloc,heap_alloc_new]);have W:=J (w.heap.size+1+1) (.cells #[aj 0,.slice none 0 0,aj 0,aj 0] 163 (0,0)) ag (by grind[heap_alloc_new]);have a5:Hid (w.grownBy i none):=ar (ax (ax (ax (aw _ _) _) _) _) G;have a6:=bj y;have a0:dS i w.heap.size 0=some (aj u1):=fy x0
 have a1:dS i w.heap.size 1=some (aj Z):=fy x0
 have b0:dS i (w.heap.size+1) 0=some (aj v1):=fy x1
 have b1:dS i (w.heap.size+1) 1=some (aj v2):=fy x1
 have f0:dS i (w.heap.size+1+1) 0=some (aj 0):=fy W
 have f1:dS i (w.heap.size+1+1) 1=some (.slice none 0 0):=fy W
 have f2:dS i (w.heap.size+1+1) 2=some (aj 0):=fy W
 have f3:dS i (w.heap.size+1+1) 3=some (aj 0):=fy W
 have y0:i.frozen? (ay (w.heap.size+1+1) 0)=false:=qE W
 have y1:i.frozen? (ay (w.heap.size+1+1) 1)=false:=qE W
 have y2:i.frozen? (ay (w.heap.size+1+1) 2)=false:=qE W
 have y3:i.frozen? (ay (w.heap.size+1+1) 3)=false:=qE W
 obtain⟨k0,e0⟩:=y.cells 0 ag;obtain⟨k1,e1⟩:=y.cells 1 ag;obtain⟨k2,e2⟩:=y.cells 2 ag;obtain⟨k3,e3⟩:=y.cells 3 ag;rw[nR]at k0 k1 k2 k3
 have a7:(1:Int)<r0:=ag
 go_wp2
 refine dg (v:=.agg #[aj f,dA (w.heap.size+1+1+1) r0 r0,aj 0,aj into]) (by simp[results,results74,go_sem, *]) rfl ⟨w.heap.size+1+1+1,rfl,ag,?_,?_⟩
 .have hP:∀j,eC (eC (eC (eC (eQ (λ_=>(0,0))) 0 (aj u1)) 1 (aj Z)) 2 (aj v1)) 3 (aj v2) j=eQ (ig (u1,Z) (v1,v2)) j:=λj=>by
   unfold eC;by_cases c3:j=3
   .subst c3;rfl
   by_cases c2:j=2
   .subst c2;rfl
   by_cases c1:j=1
   .subst c1;rfl
   by_cases c0:j=0
   .subst c0;rfl
   rw[au c3,au c2,au c1,au c0,nR];unfold eQ ig;rw[au (show ¬j / 2=0 by omega),au (show ¬j / 2=1 by omega)];split<;>rfl
  exact((((((((a6.eC 0 _).eC 1 _).eC 2 _).eC 3 _).off ag).off ag).off ag).off ag).congr (λj _=>hP j)
 have hs:w.heap.size<=w.heap.size+1+1+1:=ag
 have H:w.heap.size<=w.heap.size+1+1:=ag
 exact bu (bu (bu (bu (bu (bu (bu (bu a5 (ah hs) _) (ah hs) _) (ah hs) _) (ah hs) _) (ah H) _) (ah H) _) (ah H) _) (ah H) _
def Dg.oK(g:Dg)(t i b:Nat):Dg:={ g with rb:=λa c=>if a=t/\c=i then b else g.rb a c }
def wT(g:Dg)(t i b:Nat):(g.oK t i b).rb t i=b:=bf ⟨rfl,rfl⟩
def qO(g:Dg){t i a c:Nat}(b:Nat)(h:¬(a=t/\c=i)):(g.oK t i b).rb a c=g.rb a c:=au h
theorem dZ.push(h:dZ p m g w){t:Nat}(ht:mY m t){tb kb ck vb:Nat}{f:jc}(hb:g.ro 1 0=(some (ay tb 0),(g.ro 1 0).2))(hO:dM (λk=>k=tb\/fi (g.ro 5 t).1=some k) w w')(hT:Full w' tb 167 ((g.ro 1 0).2*8) (m.nt*8) (eC (tE m g) ((t-1)*8) (dA kb ((m.T t).fr.length+1) ck)))(hK:w'.ownsRow 0 163 4 (dA kb ((m.T t).fr.length+1) ck) ((m.T t).fr.length+1) (rowP ((m.T t).fr.length*4) (fE p m g t)++[fC p f vb 0,fC p f vb 1,fC p f vb 2,fC p f vb 3]))(hV:Full w' vb 115 (p.rg f.f*2) (p.rg f.f*2) (eQ f.R))(J:fi (g.ro 5 t).1=some kb\/w.heap.size<=kb)(hv:w.heap.size<=vb)(aA:kb≠vb):Tr p m g w (m.push t f) ((g.at 5 t (some (ay kb 0),ck)).oK t (m.T t).fr.length vb) w':=by
 have:=ht.1;have:=ht.2;obtain⟨b,G,h1,h2,h3⟩:=h.T ag;have a7:b=tb:=by rw[hb]at G;injection G with G;injection G with G _;exact G.symm
 subst a7;have a5:(m.push t f).T t=(m.T t).mz ((m.T t).fr++[f]):=gi _ _ _;have W:∀u,u≠t->(m.push t f).T u=m.T u:=λu e=>fW _ _ e;have Z:((m.push t f).T t).fr.length=(m.T t).fr.length+1:=by rw[a5];show((m.T t).fr++[f]).length=_;rw[cw];rfl
 have Y:∀y z,fU (m.push t f) y z=if y=t/\z=(m.T t).fr.length then f else fU m y z:=λy z=>by
  unfold fU;by_cases e:y=t
  .subst e;rw[a5];show((m.T y).fr++[f]).getD z n6=_;grind
  grind
 have a9:∀x y z,¬(x=6/\y=t/\z=(m.T t).fr.length)->vd p (m.push t f) x y z=vd p m x y z:=λx y z hC=>by
  unfold vd;by_cases e:x=6
  .subst e;show decide (1<=y/\y<=m.nt/\z<((m.push t f).T y).fr.length)=decide (1<=y/\y<=m.nt/\z<(m.T y).fr.length);grind
  rw[au e,au e];rfl
 have v6:vd p (m.push t f) 6 t (m.T t).fr.length=true:=zI ht.1 ht.2 ag;have v5:vd p (m.push t f) 5 t 0=true:=rP ht.1 ht.2;refine h.to (λx y z=>(x=1/\y=0/\z=0)\/(x=5/\y=t/\z=0)\/(x=6/\y=t/\z=(m.T t).fr.length)) (λk=>if k=vb then(6,t,(m.T t).fr.length) else(5,t,0)) (hO.mono ?_) (λx y z hC=>kT (a9 x y z (λe=>hC (ah (ah e)))) (λa1=>?_)) ?_ ?_
 .rintro k (rfl|J) _
  .exact⟨1,0,0,af ⟨rfl,rfl,rfl⟩,((CZ p m hb) _).2 rfl⟩
  exact⟨5,t,0,ah (af ⟨rfl,rfl,rfl⟩),by rw[ie (rP ht.1 ht.2)];exact J⟩
 .refine ok_eq (e0:=λ_=>⟨rfl,Et p m g t ((m.T t).mz ((m.T t).fr++[f])) (some (ay kb 0),ck)⟩) (er:=λa8=>?_) (eq:=λe=>⟨rp g _ ag,?_,?_⟩) (e6:=λe=>?_) (hx:=l9 a1)
  .have a4:x≠1:=λe=>hC (af ⟨e,kS a1 ag⟩);have h5:¬(x=5/\y=t):=λe=>hC (ah (af ⟨e.1,e.2,by grind[vG]⟩));refine⟨rp g _ h5,?_,?_⟩
   .unfold sg;by_cases e5:x=5
    .subst e5;show((m.push t f).T y).fr.length=(m.T y).fr.length;rw[W y (λe=>h5 ⟨rfl,e⟩)]
    rw[au e5,au e5];rfl
   unfold rC;rw[au a4,au a4];by_cases e3:x=3
   .rw[bf e3,bf e3];rfl
   rw[au e3,au e3];by_cases e4:x=4
   .rw[bf e4,bf e4];rfl
   rw[au e4,au e4];have e5:x=5:=by unfold FX at a8;omega
   have a0:y≠t:=λe=>h5 ⟨e5,e⟩;rw[W y a0];refine jA (λi _=>?_);unfold fE;rw[Y,au (λe=>a0 e.1),qO _ _ (λe=>a0 e.1)];rfl
  .unfold sg;rcases e with rfl|rfl<;>rfl
  .rcases e with rfl|rfl<;>rfl
  subst e;have hn:¬(y=t/\z=(m.T t).fr.length):=λe=>hC (ah (ah ⟨rfl,e⟩));rw[Y,au hn,qO _ _ hn];exact⟨rfl,rfl,rfl⟩
 .rintro x y z (⟨rfl,rfl,rfl⟩|⟨rfl,rfl,rfl⟩|⟨rfl,rfl,rfl⟩)
  .show World.ownsRow _ 0 167 8 (.slice ((g.at 5 t (some (ay kb 0),ck)).ro 1 0).1 m.nt ((g.at 5 t (some (ay kb 0),ck)).ro 1 0).2) m.nt (rowP (m.nt*8) (tE (m.push t f) (g.at 5 t (some (ay kb 0),ck))));rw[rp g _ ag,G];refine nZ h1 h2 (hT.congr (λi hi=>?_));have:=DH m g ht.1 ((m.T t).fr++[f]) (some (ay kb 0),ck) i;rw[show((m.T t).fr++[f]).length=(m.T t).fr.length+1 by rw[cw];rfl]at this;exact this.symm
  .rw[ie v5];show World.ownsRow _ 0 163 4 (.slice ((g.at 5 y (some (ay kb 0),ck)).ro 5 y).1 ((m.push y f).T y).fr.length ((g.at 5 y (some (ay kb 0),ck)).ro 5 y).2) ((m.push y f).T y).fr.length (rowP (((m.push y f).T y).fr.length*4) (fE p (m.push y f) ((g.at 5 y (some (ay kb 0),ck)).oK y (m.T y).fr.length vb) y));rw[wv,Z];have a3:∀i k,k<4->fE p (m.push y f) ((g.at 5 y (some (ay kb 0),ck)).oK y (m.T y).fr.length vb) y (i*4+k)=if i=(m.T y).fr.length then fC p f vb k else fE p m g y (i*4+k):=λi k J=>by
    rw[uR _ _ _ _ J,uR _ _ _ _ J,Y];by_cases e:i=(m.T y).fr.length
    .rw[bf e,bf ⟨rfl,e⟩,e,wT]
    rw[au e,au (λe'=>e e'.2),qO _ _ (λe'=>e e'.2)];rfl
   rw[show((m.T y).fr.length+1)*4=(m.T y).fr.length*4+4 by omega,<-uh (n:=(m.T y).fr.length*4) (k:=4) (P:=fE p m g y) (ys:=[fC p f vb 0,fC p f vb 1,fC p f vb 2,fC p f vb 3]) (λj hj=>?_) rfl (λj hj=>?_)]
   .exact hK
   .have:=a3 (j / 4) (j % 4) ag;rw[show j / 4*4+j % 4=j by omega,eD]at this;exact this
   rw[a3 _ _ hj,bf rfl];have hc:=oU 3 j ag
   rcases hc with rfl|rfl|rfl|rfl<;>rfl
  rw[ie v6];show Full w' (((g.at 5 y (some (ay kb 0),ck)).oK y (m.T y).fr.length vb).rb y (m.T y).fr.length) 115 (p.rg (fU (m.push y f) y (m.T y).fr.length).f*2) (p.rg (fU (m.push y f) y (m.T y).fr.length).f*2) (eQ (fU (m.push y f) y (m.T y).fr.length).R);rw[Y,bf ⟨rfl,rfl⟩,wT];exact hV
 rintro x y z k (⟨rfl,rfl,rfl⟩|⟨rfl,rfl,rfl⟩|⟨rfl,rfl,rfl⟩) H
 .left
  have o:fi ((g.at 5 t (some (ay kb 0),ck)).ro 1 0).1=some k:=H;rw[rp g _ ag]at o;exact o
 .rw[ie v5]at H;have o:fi ((g.at 5 y (some (ay kb 0),ck)).ro 5 y).1=some k:=H;rw[wv]at o;have a2:some kb=some k:=o;injection a2 with a2;subst a2;rcases J with J|J
  .left
   rw[ie (rP ht.1 ht.2)];exact J
  exact ah ⟨J,au aA⟩
 rw[ie v6]at H;have o:k=((g.at 5 y (some (ay kb 0),ck)).oK y (m.T y).fr.length vb).rb y (m.T y).fr.length:=H;rw[wT]at o;subst o;exact ah ⟨hv,bf rfl⟩
def Dm.kP(m:Dm)(x:Dt):Dm:={ m with nt:=m.nt+1,T:=λt=>if t=m.nt+1 then x else m.T t }
theorem dZ.kP(h:dZ p m g w){tb tc kb vb:Nat}{x:Dt}{f:jc}(hx:x.fr=[f])(hO:dM (λk=>k=g.mb\/fi (g.ro 1 0).1=some k) w w')(hM:Full w' g.mb 112 24 24 (eC (mE p m g) 6 (dA tb (m.nt+1) tc)))(hT:w'.ownsRow 0 167 8 (dA tb (m.nt+1) tc) (m.nt+1) (rowP (m.nt*8) (tE m g)++[dA kb 1 1,jk x.how,jk x.into,jk x.what,jk x.lH,jk x.jw,jk x.out.1,jk x.out.2]))(hK:Full w' kb 163 4 4 (fC p f vb))(hV:Full w' vb 115 (p.rg f.f*2) (p.rg f.f*2) (eQ f.R))(ht:fi (g.ro 1 0).1=some tb\/w.heap.size<=tb)(hk:w.heap.size<=kb)(hv:w.heap.size<=vb)(aE:kb≠vb)(aB:tb≠kb)(aC:tb≠vb):Tr p m g w (m.kP x) (((g.at 1 0 (some (ay tb 0),tc)).at 5 (m.nt+1) (some (ay kb 0),1)).oK (m.nt+1) 0 vb) w':=by
 have J:(m.kP x).T (m.nt+1)=x:=bf rfl;have a0:∀u,u≠m.nt+1->(m.kP x).T u=m.T u:=λu e=>au e;have a9:∀y z,y≠m.nt+1->fU (m.kP x) y z=fU m y z:=λy z e=>by grind[fU]
 have a2:fU (m.kP x) (m.nt+1) 0=f:=by unfold fU;rw[J,hx];rfl
 generalize H:((g.at 1 0 (some (ay tb 0),tc)).at 5 (m.nt+1) (some (ay kb 0),1)).oK (m.nt+1) 0 vb=g';have r1:g'.ro 1 0=(some (ay tb 0),tc):=by rw[<-H];exact(rp (g.at 1 0 (some (ay tb 0),tc)) (x:=5) (y:=m.nt+1) (some (ay kb 0),1) ag).trans (wv _ _ _ _)
 have r5:g'.ro 5 (m.nt+1)=(some (ay kb 0),1):=by rw[<-H];exact wv _ _ _ _
 have ro:∀a b,¬(a=1/\b=0)->¬(a=5/\b=m.nt+1)->g'.ro a b=g.ro a b:=λa b e1 e2=>by rw[<-H];exact(rp _ _ e2).trans (rp _ _ e1)
 have a5:g'.rb (m.nt+1) 0=vb:=by rw[<-H];exact wT _ _ _ _
 have a6:∀a c,a≠m.nt+1->g'.rb a c=g.rb a c:=λa c e=>by rw[<-H];exact qO _ _ (λe'=>e e'.1)
 have a3:g'.mb=g.mb:=by rw[<-H];rfl
 have a7:g'.sb=g.sb:=by rw[<-H];rfl
 have a4:∀a b,a≠1->¬(a=5/\b=m.nt+1)->sg (m.kP x) a b=sg m a b:=λa b e1 e2=>by
  unfold sg;rw[au e1,au e1];by_cases Y:a=5
  .grind
  rw[au Y,au Y];rfl
 have a1:∀a b,a≠1->¬(a=5/\b=m.nt+1)->je (m.kP x) g' a b=je m g a b:=λa b e1 e2=>by
  grind[je]
 have a8:je (m.kP x) g' 1 0=dA tb (m.nt+1) tc:=by
  unfold je;rw[r1];rfl
 have aD:∀a b c,¬(a=5/\b=m.nt+1/\c=0)->¬(a=6/\b=m.nt+1/\c=0)->vd p (m.kP x) a b c=vd p m a b c:=λa b c e1 e2=>by
  unfold vd;by_cases Y:a=5
  .subst Y;show decide (1<=b/\b<=m.nt+1/\c=0)=decide (1<=b/\b<=m.nt/\c=0);grind
  rw[au Y,au Y];by_cases h6:a=6
  .subst h6;show decide (1<=b/\b<=m.nt+1/\c<((m.kP x).T b).fr.length)=decide (1<=b/\b<=m.nt/\c<(m.T b).fr.length);grind
  rw[au h6,au h6];rfl
 have v5:vd p (m.kP x) 5 (m.nt+1) 0=true:=rP ag (bq _);have v6:vd p (m.kP x) 6 (m.nt+1) 0=true:=zI ag (bq _) eR
 refine h.to (λa b c=>(a=0/\b=0/\c=0)\/(a=1/\b=0/\c=0)\/(a=5/\b=m.nt+1/\c=0)\/(a=6/\b=m.nt+1/\c=0)) (λk=>if k=vb then(6,m.nt+1,0) else if k=kb then(5,m.nt+1,0) else(1,0,0)) (hO.mono ?_) (λa b c hC=>kT (aD a b c (λe=>hC (ah (ah (af e)))) (λe=>hC (ah (ah (ah e))))) (λZ=>?_)) ?_ ?_ a3
 .rintro k (rfl|hk) _
  .exact⟨0,0,0,af ⟨rfl,rfl,rfl⟩,rfl⟩
  exact⟨1,0,0,ah (af ⟨rfl,rfl,rfl⟩),hk⟩
 .have h1:a≠1:=λe=>hC (ah (af ⟨e,kS Z ag⟩));have Y:¬(a=5/\b=m.nt+1):=λe=>by
   obtain⟨rfl,rfl⟩:=e;have:=(vG Z).2.1;omega
  refine ok_eq (e0:=λe=>dp e (λe=>hC (af ⟨e,kS Z ag⟩))) (er:=λhr=>⟨ro a b (λe=>h1 e.1) Y,a4 a b h1 Y,?_⟩) (eq:=λe=>⟨ro a b (λe=>h1 e.1) Y,a4 a b h1 Y,?_⟩) (e6:=λe=>?_) (e7:=λ_=>⟨by rw[a7],rfl⟩) (hx:=l9 Z)
  .unfold rC;rw[au h1,au h1];by_cases e3:a=3
   .rw[bf e3,bf e3];refine jA (λi _=>?_);unfold cE;rw[a7];rfl
   rw[au e3,au e3];by_cases e4:a=4
   .rw[bf e4,bf e4];rfl
   rw[au e4,au e4];have e5:a=5:=by unfold FX at hr;omega
   have hb:b≠m.nt+1:=λe=>Y ⟨e5,e⟩;rw[a0 b hb];refine jA (λi _=>?_);unfold fE;rw[a9 b _ hb,a6 b _ hb]
  .unfold qC;rcases e with rfl|rfl<;>rfl
  subst e;have hb:b≠m.nt+1:=λe=>by
   have:=(xQ Z).2.1;omega
  rw[a9 b _ hb,a6 b _ hb];exact⟨rfl,rfl,rfl⟩
 .rintro a b c (⟨rfl,rfl,rfl⟩|⟨rfl,rfl,rfl⟩|⟨rfl,rfl,rfl⟩|⟨rfl,rfl,rfl⟩)
  .show Full w' g'.mb 112 24 24 (mE p (m.kP x) g');rw[a3];refine hM.congr (λi hi=>?_);show(if i=6 then _ else _)=_;by_cases e6:i=6
   .subst e6;rw[bf rfl];exact a8.symm
   rw[au e6];unfold mE;rw[au e6,au e6,a1 2 0 ek ag,a1 10 _ ek ag,a1 3 0 ek ag,a1 4 0 ek ag];rfl
  .show World.ownsRow _ 0 167 8 (.slice (g'.ro 1 0).1 (m.nt+1) (g'.ro 1 0).2) (m.nt+1) (rowP ((m.nt+1)*8) (tE (m.kP x) g'));rw[r1,show(m.nt+1)*8=m.nt*8+8 by omega,<-uh (n:=m.nt*8) (k:=8) (P:=tE m g) (ys:=[dA kb 1 1,jk x.how,jk x.into,jk x.what,jk x.lH,jk x.jw,jk x.out.1,jk x.out.2]) (λj hj=>?_) rfl (λj hj=>?_)]
   .exact hT
   .unfold tE;rw[a0 _ ag,a1 5 _ ek ag]
   unfold tE;rw[show(m.nt*8+j) / 8+1=m.nt+1 by omega,show(m.nt*8+j) % 8=j by omega,J];have aA:je (m.kP x) g' 5 (m.nt+1)=dA kb 1 1:=by
    unfold je;rw[r5];show Value.slice _ ((m.kP x).T (m.nt+1)).fr.length _=_;rw[J,hx];rfl
   rw[aA];have hc:=oU 7 j ag
   rcases hc with rfl|rfl|rfl|rfl|rfl|rfl|rfl|rfl<;>rfl
  .rw[ie v5];show World.ownsRow _ 0 163 4 (.slice (g'.ro 5 (m.nt+1)).1 ((m.kP x).T (m.nt+1)).fr.length (g'.ro 5 (m.nt+1)).2) ((m.kP x).T (m.nt+1)).fr.length (rowP (((m.kP x).T (m.nt+1)).fr.length*4) (fE p (m.kP x) g' (m.nt+1)));rw[r5,J,hx];refine nZ (n:=1) (c:=1) (sz:=4) (bq _) pY (hK.congr (λj hj=>?_));have:=uR p (m.kP x) g' (m.nt+1) (i:=0) (k:=j) hj;rw[Nat.zero_mul,Nat.zero_add]at this;rw[this,a2,a5]
  rw[ie v6];show Full w' (g'.rb (m.nt+1) 0) 115 (p.rg (fU (m.kP x) (m.nt+1) 0).f*2) (p.rg (fU (m.kP x) (m.nt+1) 0).f*2) (eQ (fU (m.kP x) (m.nt+1) 0).R);rw[a2,a5];exact hV
 rintro a b c k (⟨rfl,rfl,rfl⟩|⟨rfl,rfl,rfl⟩|⟨rfl,rfl,rfl⟩|⟨rfl,rfl,rfl⟩) W
 .have:k=g'.mb:=W;exact af (this.trans a3)
 .have o:fi (g'.ro 1 0).1=some k:=W;rw[r1]at o;have G:some tb=some k:=o;injection G with G;subst G;exact ht.imp id (λe=>⟨e,by rw[au aC,au aB]⟩)
 .rw[ie v5]at W;have o:fi (g'.ro 5 (m.nt+1)).1=some k:=W;rw[r5]at o;have G:some kb=some k:=o;injection G with G;subst G;exact ah ⟨hk,by rw[au aE,bf rfl]⟩
 rw[ie v6]at W;have o:k=g'.rb (m.nt+1) 0:=W;rw[a5]at o;subst o;exact ah ⟨hv,bf rfl⟩
def Dm.nE(m:Dm)(ty:Nat)(l:List B.V):Dm:={ m with nc:=m.nc+1,M:=λc=>if c=m.nc+1 then l else m.M c,ck:=λc=>if c=m.nc+1 then ty else m.ck c }
def Dg.slt(g:Dg)(c b:Nat):Dg:={ g with sb:=λa=>if a=c then b else g.sb a }
theorem Tr.nE{m0:Dm}{g0:Dg}{w0:aa}(h0:Tr p m0 g0 w0 m g w){cb cc J ty:Nat}{l:List B.V}(hO:dM (λk=>k=g.mb\/fi (g.ro 3 0).1=some k) w w')(hM:Full w' g.mb 112 24 24 (eC (mE p m g) 12 (dA cb (m.nc+1) cc)))(hC:w'.ownsRow 0 233 2 (dA cb (m.nc+1) cc) (m.nc+1) (rowP (m.nc*2) (cE m g)++[dA J l.length l.length,jk ((ty:Int)-1)]))(hS:Full w' J 115 (l.length*2) (l.length*2) (eQ (mW l)))(hc:fi (g.ro 3 0).1=some cb\/(¬eH p m g cb/\w0.heap.size<=cb))(hs:¬eH p m g J/\w0.heap.size<=J)(a7:cb≠J):Tr p m0 g0 w0 (m.nE ty l) ((g.at 3 0 (some (ay cb 0),cc)).slt (m.nc+1) J) w':=by
 have a3:(m.nE ty l).M (m.nc+1)=l:=bf rfl;have a4:∀u,u≠m.nc+1->(m.nE ty l).M u=m.M u:=λu e=>au e;have a6:(m.nE ty l).ck (m.nc+1)=ty:=bf rfl;have a8:∀u,u≠m.nc+1->(m.nE ty l).ck u=m.ck u:=λu e=>au e;generalize y:(g.at 3 0 (some (ay cb 0),cc)).slt (m.nc+1) J=g';have r3:g'.ro 3 0=(some (ay cb 0),cc):=by rw[<-y];exact wv g 3 0 (some (ay cb 0),cc)
 have ro:∀a b,¬(a=3/\b=0)->g'.ro a b=g.ro a b:=λa b o=>by rw[<-y];exact rp g (some (ay cb 0),cc) o
 have s1:g'.sb (m.nc+1)=J:=by rw[<-y];exact bf rfl
 have so:∀a,a≠m.nc+1->g'.sb a=g.sb a:=λa e=>by rw[<-y];exact au e
 have Z:g'.mb=g.mb:=by rw[<-y];rfl
 have a2:g'.rb=g.rb:=by rw[<-y];rfl
 have a1:∀a b,a≠3->sg (m.nE ty l) a b=sg m a b:=λa b o=>by
  unfold sg;rw[au o,au o];rfl
 have G:∀a b,a≠3->je (m.nE ty l) g' a b=je m g a b:=λa b o=>by
  grind[je]
 have a9:∀a b c,¬(a=7/\b=m.nc+1/\c=0)->vd p (m.nE ty l) a b c=vd p m a b c:=λa b c o=>by
  unfold vd;by_cases h7:a=7
  .subst h7;show decide (1<=b/\b<=m.nc+1/\c=0)=decide (1<=b/\b<=m.nc/\c=0);grind
  rw[au h7,au h7];rfl
 have v7:vd p (m.nE ty l) 7 (m.nc+1) 0=true:=I2 ag (bq _);refine Tr.to (λa b c=>(a=0/\b=0/\c=0)\/(a=3/\b=0/\c=0)\/(a=7/\b=m.nc+1/\c=0)) (λk=>if k=J then(7,m.nc+1,0) else(3,0,0)) h0 (hO.mono ?_) (λa b c hC=>kT (a9 a b c (λe=>hC (ah (ah e)))) (λY=>?_)) ?_ ?_ Z
 .rintro k (rfl|hk) _
  .exact⟨0,0,0,af ⟨rfl,rfl,rfl⟩,rfl⟩
  exact⟨3,0,0,ah (af ⟨rfl,rfl,rfl⟩),hk⟩
 .have h0:a≠0:=λe=>hC (af ⟨e,kS Y ag⟩);have h3:a≠3:=λe=>hC (ah (af ⟨e,kS Y ag⟩));refine ok_eq (e0:=λe=>dp e h0) (er:=λhr=>⟨ro a b (λe=>h3 e.1),a1 a b h3,?_⟩) (eq:=λe=>⟨ro a b (λe=>h3 e.1),a1 a b h3,?_⟩) (e6:=λ_=>⟨by rw[a2],rfl,rfl⟩) (e7:=λe=>?_) (hx:=l9 Y)
  .unfold rC;rw[au h3,au h3];by_cases o:a=1
   .rw[bf o,bf o];refine jA (λi _=>?_);unfold tE;rw[G 5 _ ek];rfl
   rw[au o,au o];by_cases e4:a=4
   .rw[bf e4,bf e4];rfl
   rw[au e4,au e4];refine jA (λi _=>?_);unfold fE;rw[a2];rfl
  .unfold qC;rcases e with rfl|rfl<;>rfl
  subst e;have hb:b≠m.nc+1:=λe=>by
   have:=(AG Y).2.1;omega
  grind
 .rintro a b c (⟨rfl,rfl,rfl⟩|⟨rfl,rfl,rfl⟩|⟨rfl,rfl,rfl⟩)
  .show Full w' g'.mb 112 24 24 (mE p (m.nE ty l) g');rw[Z];refine hM.congr (λi hi=>?_);show(if i=12 then _ else _)=_;by_cases e6:i=12
   .subst e6;rw[bf rfl];show _=Value.slice (g'.ro 3 0).1 (m.nc+1) (g'.ro 3 0).2;rw[r3]
   rw[au e6];unfold mE;rw[au e6,au e6,G 1 0 ek,G 2 0 ek,G 10 _ ek,G 4 0 ek];rfl
  .show World.ownsRow _ 0 233 2 (.slice (g'.ro 3 0).1 (m.nc+1) (g'.ro 3 0).2) (m.nc+1) (rowP ((m.nc+1)*2) (cE (m.nE ty l) g'));rw[r3,show(m.nc+1)*2=m.nc*2+2 by omega,<-uh (n:=m.nc*2) (k:=2) (P:=cE m g) (ys:=[dA J l.length l.length,jk ((ty:Int)-1)]) (λj hj=>?_) rfl (λj hj=>?_)]
   .exact hC
   .unfold cE;rw[so _ ag,a4 _ ag,a8 _ ag]
   unfold cE;rw[show(m.nc*2+j) / 2+1=m.nc+1 by omega,s1,a3,a6];have a5:j=0\/j=1:=ag
   rcases a5 with rfl|rfl
   .rw[mm];rfl
   rw[eD];rfl
  rw[ie v7];show Full w' (g'.sb (m.nc+1)) 115 (((m.nE ty l).M (m.nc+1)).length*2) (((m.nE ty l).M (m.nc+1)).length*2) (eQ (mW ((m.nE ty l).M (m.nc+1))));rw[s1,a3];exact hS
 rintro a b c k (⟨rfl,rfl,rfl⟩|⟨rfl,rfl,rfl⟩|⟨rfl,rfl,rfl⟩) W
 .have:k=g'.mb:=W;exact af (this.trans Z)
 .have H:fi (g'.ro 3 0).1=some k:=W;rw[r3]at H;have a0:some cb=some k:=H;injection a0 with a0;subst a0;exact hc.imp id (λe=>⟨e.1,e.2,au a7⟩)
 rw[ie v7]at W;have H:k=g'.sb (m.nc+1):=W;rw[s1]at H;subst H;exact ah ⟨hs.1,hs.2,bf rfl⟩
