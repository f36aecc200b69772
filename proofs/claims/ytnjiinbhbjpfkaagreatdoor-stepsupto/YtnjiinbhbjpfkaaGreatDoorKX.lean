import Derived.Test.YtnjiinbhbjpfkaaGreatDoorKN
import Derived.Test.YtnjiinbhbjpfkaaGreatDoorKR
set_option maxRecDepth 100000
set_option maxHeartbeats 0
set_option linter.all false
namespace Go.Proofs.YtnjiinbhbjpfkaaGreatDoor
open Go.RowKit Go.Proofs.Tryz
namespace F
theorem zG{w:World}{pb n p i:Nat}{on:Nat->Bool}{f:Fb}{M:Nat->List B.V}(v:B.V)(h:ow w pb n on f M)(W:1<=p)(Z:p<=n)(Y:on p=true)(hi:i<(M p).length): ow ((w.setCell ⟨f.b p,i*2,none⟩ (.int .i64 (v.1:Int))).setCell ⟨f.b p,i*2+1,none⟩ (.int .i64 v.2)) pb n on f (B.lay M p ((M p).set i v)):=by
 have G:=h.s p W Z Y;obtain⟨a0,hV,_⟩:=id G;obtain⟨J,hP,_⟩:=id h.p;have H:=dW hP hV (by decide);refine⟨((h.p.off H).off H).congr (λj _=>?_),λq a b c=>?_,h.i,λq a=>?_,λq a h0=>?_⟩
 .unfold iM;by_cases e:j / 3+1=p
  .rw[e,B.gl];simp
  rw[B.fq _ _ _ _ e]
 .by_cases e:q=p
  .subst e;rw[B.gl];simp only[dq];refine(G.oD i v).congr (λj _=>?_);have hs:∀x,B.set (jQ M q) i v x=jQ (B.lay M q ((M q).set i v)) q x:=by
    intro x;unfold jQ;rw[B.gl,ar,List.getElem?_set];by_cases y:x=i
    .subst y;rw[B.ie,aj rfl,aj hi];rfl
    rw[B.gS _ _ _ _ y,aa (λh=>y h.symm),ar]
   unfold eC;rw[hs]
  rw[B.fq _ _ _ _ e];have u:f.b q≠f.b p:=λhe=>e (h.i q p a b W Z c Y he);have:=((h.s q a b c).off (o:=i*2) (v:=.int .i64 (v.1:Int)) u).off (o:=i*2+1) (v:=.int .i64 v.2) u;refine this.congr (λj _=>?_);unfold eC jQ;rw[B.fq _ _ _ _ e]
 .by_cases e:q=p
  .subst e;rw[B.gl];simpa using h.l q a
  rw[B.fq _ _ _ _ e];exact h.l q a
 by_cases e:q=p
 .subst e;rw[B.gl];simpa using h.k q a h0
 rw[B.fq _ _ _ _ e];exact h.k q a h0
theorem wO(sb pb eb n nr k i:Nat)(x:Int)(v:B.V)(kd:B.Kd)(vb:Vs)(s:B.St)(w:World)(hS:jm w sb pb eb n kd vb s.2.2)(hH:B.iZ kd nr n s)(hn:n<=200)(hk:k<n)(hr:B.Reach nr s (k+1))(hi:i<(s.2.2 (k+1)).length): Calls prog 160 #[P0 sb,vA (k+1,x),.int .i64 i,vA v] w λe w'=>e=.returned (.tuple #[])/\∃aE,jm w' sb pb eb n (B.told kd ((s.2.2 (k+1)).getD i (0,0))) aE (B.lay s.2.2 (k+1) ((s.2.2 (k+1)).set i v))/\dy (Own n kd vb) w w'/\ox n kd vb (B.told kd ((s.2.2 (k+1)).getD i (0,0))) aE w.heap.size/\aE.f=vb.f:=by
 have KS:=az hS;have HH:=az hH;have a6:=(B.kJ hH hr).1;have h0:=hS.c0;have c2:=hS.cells.2.1;have ls:=bz hS.b;have lp:=hS.p.p.lt;have p2:=hS.p.p.cell (k*3+2) (by omega);rw[sQ,a6]at p2;have aJ:oL true (vb.f.b (k+1)) (s.2.2 (k+1)).length=.slice (some ⟨vb.f.b (k+1),0,none⟩) (s.2.2 (k+1)).length (s.2.2 (k+1)).length:=rfl;rw[aJ]at p2;have hF:=hS.p.s (k+1) (by omega) (by omega) a6;have lf:=hF.lt;have HF:=az hF;have aZ:=az (mg k x (by omega));have bF:=hS.p.l _ a6;have HI:=az (ay a6 hi);have b5:(k:Int)<(n:Int):=by omega
 have bK:(i:Int)<((s.2.2 (k+1)).length:Int):=by omega
 obtain⟨s0,f0⟩:=hF.cells (i*2) (by omega);obtain⟨s1,f1⟩:=hF.cells (i*2+1) (by omega);rw[nE]at s0;rw[nD]at s1;have aO:Hid ((jQ s.2.2 (k+1) i)=(s.2.2 (k+1)).getD i (0,0)):=rfl;have aN:=B.th hH hr i;have aT:=λh0=>(B.kJ hH (aN.2 h0)).2.2;have aU:=az aT;generalize b0:jQ s.2.2 (k+1) i=o at *;have aH:=az aO.out.symm;clear hS hH hr aJ hF aN aT b0 aO;generalize aM:(s.2.2 (k+1)).length=m at *;have aS:=az aM;clear aM;go_in;go_wp2_with fail
 generalize hW:(w.alloc (.cells #[.int .i64 ((k:Int)+1),.int .i64 x] 149)).alloc (.cells #[.int .i64 (v.1:Int),.int .i64 v.2] 149)=w1;have aF:Hid (w.grownBy w1 none):=by rw[<-hW];exact au (ah _ _ _) _
 have aK:w1.heap[w.heap.size+1]? = some (.cells #[.int .i64 (v.1:Int),.int .i64 v.2] 149 (0,0)):=by
  rw[<-hW];have:=bf (w.alloc (.cells #[.int .i64 ((k:Int)+1),.int .i64 x] 149)) (.cells #[.int .i64 (v.1:Int),.int .i64 v.2] 149);simpa using this
 have a5:w1.heap[w.heap.size]? = some (.cells #[.int .i64 ((k:Int)+1),.int .i64 x] 149 (0,0)):=by
  rw[<-hW,ak _ _ _ (by simp)];exact bf w _
 clear hW;have b1:=az aK;have a0:w1.cell? ⟨w.heap.size,0,none⟩=some (.int .i64 ((k:Int)+1)):=by simp[World.cell?,a5]
 have a1:w1.cell? ⟨w.heap.size,1,none⟩=some (.int .i64 x):=by simp[World.cell?,a5]
 have lv:=bz a5;have aG:sb<w1.heap.size:=by omega
 have d0:=(bh aF.out (a:=⟨sb,0,none⟩) ls).1.trans h0;have b2:=az p2;clear a5 aK h0 p2;go_cut [8] from 9 to 19 (λy wx=>y=.pointer (some ⟨vb.f.b (k+1),i*2,none⟩)/\Hid (w.grownBy wx none)/\Hid (wx.heap[w.heap.size+1]? = some (.cells #[.int .i64 (v.1:Int),.int .i64 v.2] 149 (0,0))))
 case first=>
  go_region_with (go_at_call 201;refine(aZ.out _).mono ?_;rintro e w2 ⟨rfl,Z⟩;have a8:Hid (w1.grownBy w2 none):=⟨Z.os,Z.tape,Z.output,Z.size,Z.block⟩;have a4:=az (an aF.out a8.out);have d2:=(bh a8.out (a:=⟨sb,0,none⟩) aG).1.trans d0;have q2:=(bh a4.out (a:=⟨pb,k*3+2,none⟩) lp).1.trans b2.out;clear Z)
  all_goals
   go_wp2_with fail
   go_meet
   case rel=>exact⟨rfl,a4,cm a8.out b1.out (by intro e;cases e)⟩
 case rest=>
  obtain⟨rfl,H,aC⟩:=hcut;have bA:=H.out.size;have e2:=(bh H.out (a:=⟨sb,2,none⟩) ls).1.trans c2;have t0:=(bh H.out (a:=⟨vb.f.b (k+1),i*2,none⟩) lf).1.trans s0;have t1:=(bh H.out (a:=⟨vb.f.b (k+1),i*2+1,none⟩) lf).1.trans s1;have z0:=(bh H.out (a:=⟨vb.f.b (k+1),i*2,none⟩) lf).2.trans f0;have z1:=(bh H.out (a:=⟨vb.f.b (k+1),i*2+1,none⟩) lf).2.trans f1;have aW:sb<wc.heap.size:=by omega
  have a9:vb.f.b (k+1)<wc.heap.size:=by omega
  have u0:wc.cell? ⟨w.heap.size+1,0,none⟩=some (.int .i64 (v.1:Int)):=by have:=aC.out;simp[World.cell?,this]
  have u1:wc.cell? ⟨w.heap.size+1,1,none⟩=some (.int .i64 v.2):=by have:=aC.out;simp[World.cell?,this]
  have lu:=bz aC.out;clear a0 a1 d0 c2 s0 s1 f0 f1;have u:=az (KS.out.kept H.out);have aD:Own n kd vb (vb.f.b (k+1)):=ag ⟨k+1,by omega,by omega,HI.out.1,rfl⟩;have Y:=az aD;rcases hcy:kd.cy with _|c
  .rw[mx hcy]at e2;have G:=az hcy;clear hcy aD;go_wp2_with fail
   go_end0;refine⟨rfl,vb,?_,bm (bm (dU H.out) (ag Y.out) _) (ag Y.out) _,?_,rfl⟩
   .rw[told_none _ G.out];have a2:=u.out.ju.2 _ Y.out;exact⟨((af _ _ _ _ (λe=>a2.1 e.symm)).trans (af _ _ _ _ (λe=>a2.1 e.symm))).trans u.out.b,zG v u.out.p (by omega) (by omega) HI.out.1 (by rw[aS.out];exact HI.out.2),λc hc=>by rw[G.out]at hc;cases hc⟩
   rw[told_none _ G.out];exact ox.refl _ _ _ _
  rw[mu hcy]at e2;have G:=az hcy;clear hcy aD;obtain⟨_,T,_,aQ⟩:=HH.out.h3 c G.out;have aA:=dH aQ.len hn;have aY:=az (λw' (h:kY w' vb.cb vb.rd sb n vb.ad vb.cap c)=>qd vb.cb vb.rd sb n vb.ad vb.cap c o w' h (by have:=aU.out;rw[aH.out]at this;exact this) hn aA);have aX:Hid (kY wc.drew vb.cb vb.rd sb n vb.ad vb.cap c):=(u.out.c c G.out).block (λ_ _=>rfl);have a7:Hid (∀y,nh vb.cb vb.rd vb.ad y->Own n kd vb y):=λy hy=>ab ⟨by rw[G.out];rfl,hy⟩;have aI:=(rq u.out.p (u.out.c c G.out)).2 _ (by omega) (by omega) HI.out.1;have aR:¬nh vb.cb vb.rd vb.ad (w.heap.size+1):=λh=>by have:=KS.out.lt _ (a7.out _ h);omega
  have J:=az (ay aI aR);have HK:Hid (∀w':World,dy (nh vb.cb vb.rd vb.ad) wc.drew w'->w'.cell? ⟨vb.f.b (k+1),i*2,none⟩=some (.int .i64 (o.1:Int))/\w'.cell? ⟨vb.f.b (k+1),i*2+1,none⟩=some (.int .i64 o.2)/\w'.frozen? ⟨vb.f.b (k+1),i*2,none⟩=false/\w'.frozen? ⟨vb.f.b (k+1),i*2+1,none⟩=false/\w'.cell? ⟨w.heap.size+1,0,none⟩=some (.int .i64 (v.1:Int))/\w'.cell? ⟨w.heap.size+1,1,none⟩=some (.int .i64 v.2)/\vb.f.b (k+1)<w'.heap.size/\w.heap.size+1<w'.heap.size):=λw' hO=>by
   have W:dy (nh vb.cb vb.rd vb.ad) wc w':=hO;have:=W.size;exact⟨(W.cell a9 J.out.1).trans t0,(W.cell a9 J.out.1).trans t1,(W.frozen a9 J.out.1).trans z0,(W.frozen a9 J.out.1).trans z1,(W.cell lu J.out.2).trans u0,(W.cell lu J.out.2).trans u1,by omega,by omega⟩
  clear aQ aA aI aR;go_wp2_with fail
  go_region_with (go_at_call 188;refine(aY.out _ aX.out).mono ?_;rintro e w4 ⟨rfl,aP,aL,h4,h5,h6⟩;obtain⟨bJ,bB,bH,b9,bE,bG,bI,bD⟩:=HK.out w4 h6;have b4:=az (ay h4 (ay h5 h6));clear h4 h5 h6)
  all_goals
   go_wp2_with fail
   go_end0;obtain⟨h4,h5,h6⟩:=b4.out;have a3:dy (nh vb.cb vb.rd vb.ad) wc w4:=h6;have b3:w4.heap[sb]? = _:=(a3.same aW (λh=>(KS.out.ju.2 sb (a7.out _ h)).1 rfl)).trans u.out.b;have a2:=KS.out.ju.2 _ Y.out;have aV:ow w4 pb n kd.on vb.f s.2.2:=by
    have:=rq u.out.p (u.out.c c G.out);exact u.out.p.block (a3.same u.out.p.p.lt this.1) (λp a b d=>a3.same (u.out.p.s p a b d).lt (this.2 p a b d))
   have aB:∀y,nh vb.cb vb.rd aP y->y≠vb.f.b (k+1):=λy hy e=>by
    rcases h4.Hz hy with h|h
    .exact J.out.1 (by rw[<-e];exact h)
    have h':wc.heap.size<=y:=h;omega
   refine⟨rfl,{ vb with ad:=aP,cap:=aL },?_,?_,?_,rfl⟩
   .rw[aH.out,AG _ G.out];refine⟨?_,zG v aV (by omega) (by omega) HI.out.1 (by rw[aS.out];exact HI.out.2),λc' hc=>?_⟩
    .refine((af _ _ _ _ (λe=>a2.1 e.symm)).trans (af _ _ _ _ (λe=>a2.1 e.symm))).trans (b3.trans ?_);rw[mu G.out];rfl
    have e:(⟨(B.seen c.m c.st o).1,(B.seen c.m c.st o).2,c.nx⟩:B.Cy)=c':=by injection hc
    subst e;exact h5.block (λy hy=>(af _ _ _ _ (aB y hy)).trans (af _ _ _ _ (aB y hy)))
   .refine bm (bm ((dU (S:=Own n kd vb) H.out).trans a3 (λy hy _=>a7.out y hy)) (ag Y.out) _) (ag Y.out) _
   intro y hy;rcases hy with⟨p,a,b,d,e⟩|⟨_,hy⟩
   .exact ag (ag ⟨p,a,b,d,e⟩)
   rcases h4.Hz hy with h|h
   .exact ag (a7.out y h)
   have h':wc.heap.size<=y:=h;exact ab (by omega)
theorem BE(op a b c fb tb eb cb L nx rb nr sb pb n nt:Nat)(back:Value)(kd:B.Kd)(vb:Vs)(s:B.St)(R:Nat->B.V)(w:World)(hF:Fr w fb cb L nx rb nr back R)(hS:jm w sb pb eb n kd vb s.2.2)(hH:B.iZ kd nt n s)(hV:∀i,i<nr->B.qO kd.on n (R i))(aE:∀i,i<nr->(R i).1≠0->B.Reach nt s (R i).1)(hn:n<=200)(ha:a<nr)(hb:b<nr)(hc:c<nr)(aD:w.cell? ⟨eb,27,none⟩=some (P0 sb))(le:eb<w.heap.size)(Y:¬Own n kd vb eb): Calls prog 102 #[dZ op a b c fb tb eb] w λe w'=>(kK vb.f s.2.2 (R a) (R b)/\e=.returned (.int .i64 0)/\∃u,jm w' sb pb eb n (B.told kd ((s.2.2 (R a).1).getD (R b).2.toNat (0,0))) u (B.lay s.2.2 (R a).1 ((s.2.2 (R a).1).set (R b).2.toNat (R c)))/\dy (Own n kd vb) w w'/\ox n kd vb (B.told kd ((s.2.2 (R a).1).getD (R b).2.toNat (0,0))) u w.heap.size/\u.f=vb.f)\/(¬kK vb.f s.2.2 (R a) (R b)/\e=.returned (.int .i64 (gI vb.f (R a) (R b)))/\w.grownBy w' none):=by
 have KF:=az hF;have KS:=az hS;have HH:=az hH;have HV:=az hV;have aN:=az aE;have aO:=az Y;clear hF hS hH hV aE Y;go_in;go_wp2_with fail
 have aB:=az (jf w op a b c fb tb eb);have a9:=az (ah w (.cells #[.int .u8 (op:Int),.int .u8 (a:Int),.int .u8 (b:Int),.int .u8 (c:Int),P0 fb,P0 tb,P0 eb] 186) none);generalize hW:w.alloc (.cells #[.int .u8 (op:Int),.int .u8 (a:Int),.int .u8 (b:Int),.int .u8 (c:Int),P0 fb,P0 tb,P0 eb] 186)=w1 at *;have b1:w1.heap.size=w.heap.size+1:=by rw[<-hW];simp
 clear hW;go_region_held3 (λw'=>w'.cell? ⟨w.heap.size,0,none⟩=some (.int .u8 (op:Int))/\w'.cell? ⟨w.heap.size,1,none⟩=some (.int .u8 (a:Int))/\w'.cell? ⟨w.heap.size,2,none⟩=some (.int .u8 (b:Int))/\w'.cell? ⟨w.heap.size,3,none⟩=some (.int .u8 (c:Int))/\w'.cell? ⟨w.heap.size,4,none⟩=some (P0 fb)/\w'.cell? ⟨w.heap.size,5,none⟩=some (P0 tb)/\w'.cell? ⟨w.heap.size,6,none⟩=some (P0 eb)) (first|exact fk aB.out|exact fk aL.out|exact fk aK.out|exact fk a6.out) (first|(go_at_call 98;refine(As op a b c fb tb eb cb L nx rb nr back R w1.drew (KF.out.kept (bq a9.out)).1 (KF.out.kept (bq a9.out)).2.1 ha).mono ?_;rintro e w2 ⟨rfl,a8⟩;have a4:=az (an (bq a9.out) a8);have aL:=az (dp a8 (show w1.drew.heap[w.heap.size]? = _ from aB.out));clear a8)|(go_at_call 86;refine(pO op a b c fb tb eb cb L nx rb nr back R w2 (KF.out.kept a4.out).1 (KF.out.kept a4.out).2.1 hb).mono ?_;rintro e w3 ⟨rfl,a2⟩;have a1:=az (an a4.out a2);have aK:=az (dp a2 aL.out);clear a2)|(go_at_call 158;refine(wN op a b c fb tb eb sb pb n (R a) (R b) kd vb s.2.2 w3 (KS.out.kept a1.out) hn (HV.out a ha) ((bh a1.out (a:=⟨eb,27,none⟩) le).1.trans aD) (dm le a1.out.size)).mono ?_;rintro e w4 ⟨v,rfl,a5,a3⟩;have y:=az (an a1.out a5);have a6:=az (dp a5 aK.out);obtain⟨pv,wy,rfl⟩:∃(pv:Value) (wy:Int),v=.tuple #[pv,.int .i64 wy]:=(by rcases a3 with⟨_,h⟩|⟨_,h⟩;exact⟨_,_,h⟩;exact⟨_,_,h⟩);have aR:=az a3;clear a5 a3))
 all_goals
  rcases aR.out with⟨J,he⟩|⟨J,he⟩
  .have aA:=az J;obtain⟨o1,ok,o2,o3,o4⟩:=id J;have hp:1<=(R a).1/\(R a).1<=n/\kd.on (R a).1=true:=by
    rcases HV.out a ha with h|h
    .exact ch h o1
    exact⟨h.1,h.2.1,h.2.2.1⟩
   injection he with he;injection he with he;injection he with a7 o;injection o with o _;injection o with _ o;subst a7 o;obtain⟨i,hi⟩:∃i:Nat,(R b).2=(i:Int):=⟨(R b).2.toNat,by omega⟩;obtain⟨k,hk⟩:∃k,(R a).1=k+1:=⟨(R a).1-1,by omega⟩;have aM:i<(s.2.2 (k+1)).length:=by rw[hi,hk]at o4;omega
   have aH:B.Reach nt s (k+1):=by rw[<-hk];exact aN.out a ha o1
   have aC:∀w':World,w.grownBy w' none->Calls prog 160 #[P0 sb,vA (R a),.int .i64 (R b).2,vA (R c)] w' λe w''=>e=.returned (.tuple #[])/\∃u,jm w'' sb pb eb n (B.told kd ((s.2.2 (R a).1).getD (R b).2.toNat (0,0))) u (B.lay s.2.2 (R a).1 ((s.2.2 (R a).1).set (R b).2.toNat (R c)))/\dy (Own n kd vb) w' w''/\ox n kd vb (B.told kd ((s.2.2 (R a).1).getD (R b).2.toNat (0,0))) u w'.heap.size/\u.f=vb.f:=by
    intro w' hg;have e1:R a=(k+1,(R a).2):=fV hk rfl;rw[hk,hi];have:=wO sb pb eb n nt k i (R a).2 (R c) kd vb s w' (KS.out.kept hg) HH.out hn (by omega) aH aM;rw[<-e1]at this;exact this
   have aV:=az aC;generalize aJ:(R b).2=yy at *;have aG:=az aJ;clear aJ;clear J ok o1 o2 o3 o4 hp hi hk aM aC aH;obtain⟨x0,x1,x2,x3,x4,x5,x6⟩:=fk a6.out;have lx:=bz a6.out;have Y:¬Own n kd vb eb:=aO.out;have aQ:Hid (∀x,Own n kd vb x->x<w.heap.size):=KS.out.lt;have G:¬Own n kd vb w.heap.size:=λh=>by have:=aQ.out _ h;omega
   have HS:Hid (∀w':World,dy (Own n kd vb) w4 w'->(w'.cell? ⟨w.heap.size,0,none⟩=some (.int .u8 (op:Int))/\w'.cell? ⟨w.heap.size,1,none⟩=some (.int .u8 (a:Int))/\w'.cell? ⟨w.heap.size,2,none⟩=some (.int .u8 (b:Int))/\w'.cell? ⟨w.heap.size,3,none⟩=some (.int .u8 (c:Int))/\w'.cell? ⟨w.heap.size,4,none⟩=some (P0 fb)/\w'.cell? ⟨w.heap.size,5,none⟩=some (P0 tb)/\w'.cell? ⟨w.heap.size,6,none⟩=some (P0 eb)/\w'.cell? ⟨eb,27,none⟩=some (P0 sb))):=
    λw' hO=>⟨(hO.cell lx G).trans x0,(hO.cell lx G).trans x1,(hO.cell lx G).trans x2,(hO.cell lx G).trans x3,(hO.cell lx G).trans x4,(hO.cell lx G).trans x5,(hO.cell lx G).trans x6,(hO.cell (by omega) Y).trans ((bh y.out (a:=⟨eb,27,none⟩) le).1.trans aD)⟩
   have aP:=az (HS.out w4.drew (dk _ _));have Z:=az (KF.out.kept y.out);go_wp2_with fail
   go_region_held3 (λw'=>w'.cell? ⟨w.heap.size,0,none⟩=some (.int .u8 (op:Int))/\w'.cell? ⟨w.heap.size,1,none⟩=some (.int .u8 (a:Int))/\w'.cell? ⟨w.heap.size,2,none⟩=some (.int .u8 (b:Int))/\w'.cell? ⟨w.heap.size,3,none⟩=some (.int .u8 (c:Int))/\w'.cell? ⟨w.heap.size,4,none⟩=some (P0 fb)/\w'.cell? ⟨w.heap.size,5,none⟩=some (P0 tb)/\w'.cell? ⟨w.heap.size,6,none⟩=some (P0 eb)/\w'.cell? ⟨eb,27,none⟩=some (P0 sb)) (first|exact aP.out|exact aX.out|exact aZ.out|exact aS.out) (first|(go_at_call 98;refine(As op a b c fb tb eb cb L nx rb nr back R w4.drew (Z.out.kept (bq (ax _ _))).1 (Z.out.kept (bq (ax _ _))).2.1 ha).mono ?_;rintro e w5 ⟨rfl,H⟩;have a0:Hid (w4.grownBy w5 none):=⟨H.os,H.tape,H.output,H.size,H.block⟩;have aX:=az (HS.out w5 (dU a0.out));clear H)|(go_at_call 94;refine(qJ op a b c fb tb eb cb L nx rb nr back R w5 (Z.out.kept a0.out).1 (Z.out.kept a0.out).2.1 hc).mono ?_;rintro e w6 ⟨rfl,aI⟩;have W:=az (an a0.out aI);have aZ:=az (HS.out w6 (dU W.out));clear aI)|(go_at_call 160;refine(aV.out w6 (an y.out W.out)).mono ?_;rintro e w7 ⟨rfl,u,k1,k2,k3,k4⟩;have aS:=az (HS.out w7 ((dU (S:=Own n kd vb) W.out).trans k2 (λ_ h _=>h)));have HR:=az (ay k1 (ay ((dU (S:=Own n kd vb) (an y.out W.out)).trans k2 (λ_ h _=>h)) k3));have aT:=az k4;have aW:w.heap.size<=w6.heap.size:=(an y.out W.out).size;clear k1 k2 k3 k4))
   all_goals
    go_wp2_with fail
    go_ret;refine ag ⟨aA.out,rfl,u,?_,HR.out.2.1,λx hx=>?_,aT.out⟩
    .rw[aG.out];exact HR.out.1
    rw[aG.out]at hx;exact(HR.out.2.2 x hx).imp id (λh=>dH aW h)
  have aY:=sv vb.f (R a) (R b);generalize aF:gI vb.f (R a) (R b)=why at *;have aU:=az aF;injection he with he;injection he with he;injection he with a7 o;injection o with o _;injection o with _ o;subst a7 o;have aA:=az J;have b0:¬((why:Int)=0):=by omega
  clear J aF aY;go_wp2_with fail
  go_ret;exact ab ⟨aA.out,by rw[aU.out];rfl,y.out⟩
