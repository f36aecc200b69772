import Derived.Test.YtnjiinbhbjpfkaaGreatDoorTY
set_option maxRecDepth 100000
set_option maxHeartbeats 0
set_option linter.all false
namespace Go.Proofs.YtnjiinbhbjpfkaaGreatDoor
open Go.RowKit Go.Proofs.Tryz
namespace F
theorem C6(op a b c fb tb eb cb L nx rb nr sb pb n nt:Nat)(back:Value)(kd:B.Kd)(vb:Vs)(s:B.St)(R:Nat->B.V)(w:aa)(hF:Fr w fb cb L nx rb nr back R)(hS:kD w sb pb eb n kd vb s.2.2)(hH:B.jO kd nt n s)(hV:∀i,i<nr->B.sG kd.on n (R i))(aE:∀i,i<nr->(R i).1≠0->B.Reach nt s (R i).1)(hn:n<=200)(ha:a<nr)(hb:b<nr)(hc:c<nr)(aD:w.cell? (ay eb 27)=some (P0 sb))(le:eb<w.heap.size)(Y:¬Own n kd vb eb): Calls prog 102 #[ed op a b c fb tb eb] w λe w'=>(mJ vb.f s.2.2 (R a) (R b)/\e=.returned (aj 0)/\∃u,kD w' sb pb eb n (B.told kd ((s.2.2 (R a).1).getD (R b).2.toNat (0,0))) u (B.lay s.2.2 (R a).1 ((s.2.2 (R a).1).set (R b).2.toNat (R c)))/\dM (Own n kd vb) w w'/\pW n kd vb (B.told kd ((s.2.2 (R a).1).getD (R b).2.toNat (0,0))) u w.heap.size/\u.f=vb.f)\/(¬mJ vb.f s.2.2 (R a) (R b)/\e=.returned (aj (iP vb.f (R a) (R b)))/\w.grownBy w' none):=by
 have KF:=bj hF;have KS:=bj hS;have HH:=bj hH;have HV:=bj hV;have aN:=bj aE;have aO:=bj Y;clear hF hS hH hV aE Y;go_in;go_wp2_with fail
 have aB:=bj (iN w op a b c fb tb eb);have a9:=bj (ak w (.cells #[dy (op:Int),dy (a:Int),dy (b:Int),dy (c:Int),P0 fb,P0 tb,P0 eb] 186) none);generalize hW:w.alloc (.cells #[dy (op:Int),dy (a:Int),dy (b:Int),dy (c:Int),P0 fb,P0 tb,P0 eb] 186)=w1 at *;have b1:w1.heap.size=w.heap.size+1:=by rw[<-hW];simp
 clear hW;go_region_held3 (λw'=>w'.cell? (ay w.heap.size 0)=some (dy (op:Int))/\w'.cell? (ay w.heap.size 1)=some (dy (a:Int))/\w'.cell? (ay w.heap.size 2)=some (dy (b:Int))/\w'.cell? (ay w.heap.size 3)=some (dy (c:Int))/\w'.cell? (ay w.heap.size 4)=some (P0 fb)/\w'.cell? (ay w.heap.size 5)=some (P0 tb)/\w'.cell? (ay w.heap.size 6)=some (P0 eb)) (first|exact eZ aB.out|exact eZ aL.out|exact eZ aK.out|exact eZ a6.out) (first|(go_at_call 98;refine du (BF op a b c fb tb eb cb L nx rb nr back R w1.drew (KF.out.kept (bo a9.out)).1 (KF.out.kept (bo a9.out)).2.1 ha) λw2 a8=>?_;have a4:=bj (ar (bo a9.out) a8);have aL:=bj (dv a8 (show w1.drew.heap[w.heap.size]? = _ from aB.out));clear a8)|(go_at_call 86;refine du (rz op a b c fb tb eb cb L nx rb nr back R w2 (KF.out.kept a4.out).1 (KF.out.kept a4.out).2.1 hb) λw3 a2=>?_;have a1:=bj (ar a4.out a2);have aK:=bj (dv a2 aL.out);clear a2)|(go_at_call 158;refine(yf op a b c fb tb eb sb pb n (R a) (R b) kd vb s.2.2 w3 (KS.out.kept a1.out) hn (HV.out a ha) ((bd a1.out (a:=ay eb 27) le).1.trans aD) (dm le a1.out.size)).mono ?_;rintro e w4 ⟨v,rfl,a5,a3⟩;have y:=bj (ar a1.out a5);have a6:=bj (dv a5 aK.out);obtain⟨pv,wy,rfl⟩:∃(pv:Value) (wy:Int),v=.tuple #[pv,aj wy]:=(by rcases a3 with⟨_,h⟩|⟨_,h⟩;exact⟨_,_,h⟩;exact⟨_,_,h⟩);have aR:=bj a3;clear a5 a3))
 all_goals
  rcases aR.out with⟨J,he⟩|⟨J,he⟩
  .have aA:=bj J;obtain⟨o1,ok,o2,o3,o4⟩:=id J;have hp:1<=(R a).1/\(R a).1<=n/\kd.on (R a).1=true:=by
    rcases HV.out a ha with h|h
    .exact dp h o1
    exact⟨h.1,h.2.1,h.2.2.1⟩
   injection he with he;injection he with he;injection he with a7 o;injection o with o _;injection o with _ o;subst a7 o;obtain⟨i,hi⟩:∃i:Nat,(R b).2=(i:Int):=⟨(R b).2.toNat,ag⟩;obtain⟨k,hk⟩:∃k,(R a).1=k+1:=⟨(R a).1-1,ag⟩;have aM:i<(s.2.2 (k+1)).length:=by rw[hi,hk]at o4;omega
   have aH:B.Reach nt s (k+1):=by rw[<-hk];exact aN.out a ha o1
   have aC:∀w':aa,w.grownBy w' none->eL 160 #[P0 sb,vA (R a),aj (R b).2,vA (R c)] w' λw''=>∃u,kD w'' sb pb eb n (B.told kd ((s.2.2 (R a).1).getD (R b).2.toNat (0,0))) u (B.lay s.2.2 (R a).1 ((s.2.2 (R a).1).set (R b).2.toNat (R c)))/\dM (Own n kd vb) w' w''/\pW n kd vb (B.told kd ((s.2.2 (R a).1).getD (R b).2.toNat (0,0))) u w'.heap.size/\u.f=vb.f:=by
    intro w' hg;have e1:R a=(k+1,(R a).2):=fV hk rfl;rw[hk,hi];have:=yg sb pb eb n nt k i (R a).2 (R c) kd vb s w' (KS.out.kept hg) HH.out hn ag aH aM;rw[<-e1]at this;exact this
   have aV:=bj aC;generalize aJ:(R b).2=yy at *;have aG:=bj aJ;clear aJ;clear J ok o1 o2 o3 o4 hp hi hk aM aC aH;obtain⟨x0,x1,x2,x3,x4,x5,x6⟩:=eZ a6.out;have lx:=ch a6.out;have Y:¬Own n kd vb eb:=aO.out;have aQ:Hid (∀x,Own n kd vb x->x<w.heap.size):=KS.out.lt;have G:¬Own n kd vb w.heap.size:=λh=>by have:=aQ.out _ h;omega
   have HS:Hid (∀w':aa,dM (Own n kd vb) w4 w'->(w'.cell? (ay w.heap.size 0)=some (dy (op:Int))/\w'.cell? (ay w.heap.size 1)=some (dy (a:Int))/\w'.cell? (ay w.heap.size 2)=some (dy (b:Int))/\w'.cell? (ay w.heap.size 3)=some (dy (c:Int))/\w'.cell? (ay w.heap.size 4)=some (P0 fb)/\w'.cell? (ay w.heap.size 5)=some (P0 tb)/\w'.cell? (ay w.heap.size 6)=some (P0 eb)/\w'.cell? (ay eb 27)=some (P0 sb))):=
    λw' hO=>⟨(hO.cell lx G).trans x0,(hO.cell lx G).trans x1,(hO.cell lx G).trans x2,(hO.cell lx G).trans x3,(hO.cell lx G).trans x4,(hO.cell lx G).trans x5,(hO.cell lx G).trans x6,(hO.cell ag Y).trans ((bd y.out (a:=ay eb 27) le).1.trans aD)⟩
   have aP:=bj (HS.out w4.drew (dw _ _));have Z:=bj (KF.out.kept y.out);go_wp2_with fail
   go_region_held3 (λw'=>w'.cell? (ay w.heap.size 0)=some (dy (op:Int))/\w'.cell? (ay w.heap.size 1)=some (dy (a:Int))/\w'.cell? (ay w.heap.size 2)=some (dy (b:Int))/\w'.cell? (ay w.heap.size 3)=some (dy (c:Int))/\w'.cell? (ay w.heap.size 4)=some (P0 fb)/\w'.cell? (ay w.heap.size 5)=some (P0 tb)/\w'.cell? (ay w.heap.size 6)=some (P0 eb)/\w'.cell? (ay eb 27)=some (P0 sb)) (first|exact aP.out|exact aX.out|exact aZ.out|exact aS.out) (first|(go_at_call 98;refine du (BF op a b c fb tb eb cb L nx rb nr back R w4.drew (Z.out.kept (bo (aw _ _))).1 (Z.out.kept (bo (aw _ _))).2.1 ha) λw5 H=>?_;have a0:Hid (w4.grownBy w5 none):=⟨H.os,H.tape,H.output,H.size,H.block⟩;have aX:=bj (HS.out w5 (ep a0.out));clear H)|(go_at_call 94;refine du (sX op a b c fb tb eb cb L nx rb nr back R w5 (Z.out.kept a0.out).1 (Z.out.kept a0.out).2.1 hc) λw6 aI=>?_;have W:=bj (ar a0.out aI);have aZ:=bj (HS.out w6 (ep W.out));clear aI)|(go_at_call 160;refine du (aV.out w6 (ar y.out W.out)) ?_;rintro w7 ⟨u,k1,k2,k3,k4⟩;have aS:=bj (HS.out w7 ((ep (S:=Own n kd vb) W.out).trans k2 (λ_ h _=>h)));have HR:=bj (bh k1 (bh ((ep (S:=Own n kd vb) (ar y.out W.out)).trans k2 (λ_ h _=>h)) k3));have aT:=bj k4;have aW:w.heap.size<=w6.heap.size:=(ar y.out W.out).size;clear k1 k2 k3 k4))
   all_goals
    go_wp2_with fail
    go_ret;refine af ⟨aA.out,rfl,u,?_,HR.out.2.1,λx hx=>?_,aT.out⟩
    .rw[aG.out];exact HR.out.1
    rw[aG.out]at hx;exact(HR.out.2.2 x hx).imp id (λh=>dU aW h)
  have aY:=uf vb.f (R a) (R b);generalize aF:iP vb.f (R a) (R b)=why at *;have aU:=bj aF;injection he with he;injection he with he;injection he with a7 o;injection o with o _;injection o with _ o;subst a7 o;have aA:=bj J;have b0:¬((why:Int)=0):=ag
  clear J aF aY;go_wp2_with fail
  go_ret;exact ah ⟨aA.out,jx aU.out,y.out⟩
