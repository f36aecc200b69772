import Derived.Test.YtnjiinbhbjpfkaaGreatDoorTM
set_option maxRecDepth 100000
set_option maxHeartbeats 0
set_option linter.all false
namespace Go.Proofs.YtnjiinbhbjpfkaaGreatDoor
open Go.RowKit Go.Proofs.Tryz
namespace F
def C7(op a b c fb tb eb cb L nx rb nr sb pb n:Nat)(back:Value)(kd:B.Kd)(vb:Vs)(R:Nat->B.V)(M:Nat->List B.V)(w:aa)(hF:Fr w fb cb L nx rb nr back R)(hS:kD w sb pb eb n kd vb M)(hV:∀i,i<nr->B.sG kd.on n (R i))(hn:n<=200)(ha:a<nr)(hb:b<nr)(hc:c<nr)(aE:w.cell? (ay eb 27)=some (P0 sb))(le:eb<w.heap.size)(aG:eb≠rb): Calls prog 101 #[ed op a b c fb tb eb] w λe w'=>(mJ vb.f M (R b) (R c)/\e=.returned (aj 0)/\w.grownBy w' (some rb)/\Fr w' fb cb L nx rb nr back (B.set R a ((M (R b).1).getD (R c).2.toNat (0,0))))\/(¬mJ vb.f M (R b) (R c)/\e=.returned (aj (iP vb.f (R b) (R c)))/\w.grownBy w' none):=by
 have KF:=bj hF;have KS:=bj hS;have HV:=bj hV;have aQ:Hid (eb≠rb):=aG;clear hF hS hV aG;go_in;go_wp2_with fail
 have aB:=bj (iN w op a b c fb tb eb);have a9:=bj (ak w (.cells #[dy (op:Int),dy (a:Int),dy (b:Int),dy (c:Int),P0 fb,P0 tb,P0 eb] 186) none);generalize hW:w.alloc (.cells #[dy (op:Int),dy (a:Int),dy (b:Int),dy (c:Int),P0 fb,P0 tb,P0 eb] 186)=w1 at *;have b0:w1.heap.size=w.heap.size+1:=by rw[<-hW];simp
 clear hW;go_region_held3 (λw'=>w'.cell? (ay w.heap.size 0)=some (dy (op:Int))/\w'.cell? (ay w.heap.size 1)=some (dy (a:Int))/\w'.cell? (ay w.heap.size 2)=some (dy (b:Int))/\w'.cell? (ay w.heap.size 3)=some (dy (c:Int))/\w'.cell? (ay w.heap.size 4)=some (P0 fb)/\w'.cell? (ay w.heap.size 5)=some (P0 tb)/\w'.cell? (ay w.heap.size 6)=some (P0 eb)) (first|exact eZ aB.out|exact eZ aL.out|exact eZ aK.out|exact eZ a6.out) (first|(go_at_call 86;refine du (rz op a b c fb tb eb cb L nx rb nr back R w1.drew (KF.out.kept (bo a9.out)).1 (KF.out.kept (bo a9.out)).2.1 hb) λw2 a8=>?_;have a4:=bj (ar (bo a9.out) a8);have aL:=bj (dv a8 (show w1.drew.heap[w.heap.size]? = _ from aB.out));clear a8)|(go_at_call 94;refine du (sX op a b c fb tb eb cb L nx rb nr back R w2 (KF.out.kept a4.out).1 (KF.out.kept a4.out).2.1 hc) λw3 a1=>?_;have Y:=bj (ar a4.out a1);have aK:=bj (dv a1 aL.out);clear a1)|(go_at_call 158;refine(yf op a b c fb tb eb sb pb n (R b) (R c) kd vb M w3 (KS.out.kept Y.out) hn (HV.out b hb) ((bd Y.out (a:=ay eb 27) le).1.trans aE) (dm le Y.out.size)).mono ?_;rintro e w4 ⟨v,rfl,a5,a2⟩;have G:=bj (ar Y.out a5);have a6:=bj (dv a5 aK.out);obtain⟨pv,wy,rfl⟩:∃(pv:Value) (wy:Int),v=.tuple #[pv,aj wy]:=(by rcases a2 with⟨_,h⟩|⟨_,h⟩;exact⟨_,_,h⟩;exact⟨_,_,h⟩);have aR:=bj a2;clear a5 a2))
 all_goals
  rcases aR.out with⟨H,he⟩|⟨H,he⟩
  .have aA:=bj H;obtain⟨o1,ok,o2,o3,o4⟩:=id H;have hp:1<=(R b).1/\(R b).1<=n/\kd.on (R b).1=true:=by
    rcases HV.out b hb with h|h
    .exact dp h o1
    exact⟨h.1,h.2.1,h.2.2.1⟩
   injection he with he;injection he with he;injection he with a7 o;injection o with o _;injection o with _ o;subst a7 o;obtain⟨i,hi⟩:∃i:Nat,(R c).2=(i:Int):=⟨(R c).2.toNat,ag⟩;obtain⟨k,hk⟩:∃k,(R b).1=k+1:=⟨(R b).1-1,ag⟩;have aM:i<(M (k+1)).length:=by rw[hi,hk]at o4;omega
   have aD:∀w':aa,w.grownBy w' none->dD 159 #[P0 sb,vA (R b),aj (R c).2] w' (vA ((M (R b).1).getD (R c).2.toNat (0,0))) λw''=>w'.grownBy w'' none:=by
    intro w' hg;have e1:R b=(k+1,(R b).2):=fV hk rfl;rw[hk,hi];have:=zP sb pb eb n k i (R b).2 kd vb M w' (KS.out.kept hg) hn ag (by rw[<-hk];exact hp.2.2) aM;rw[<-e1]at this;exact this
   have aS:=bj aD;generalize a0:(M (R b).1).getD (R c).2.toNat (0,0)=aU at *;have aC:=bj a0;generalize aJ:(R c).2=yy at *;have aN:=bj aJ;clear aJ;clear H ok o1 o2 o3 o4 hp hi hk aM aD a0;have W:=bj (KF.out.kept G.out);obtain⟨x0,x1,x2,x3,x4,x5,x6⟩:=eZ a6.out;have lx:=ch a6.out;have u:w.heap.size≠rb:=gp KF.out.2.1.lt
   have aT:eb≠rb:=by have:=aQ.out;exact this
   have HS:Hid (∀w':aa,dM (λk=>k=rb) w4 w'->(w'.cell? (ay w.heap.size 0)=some (dy (op:Int))/\w'.cell? (ay w.heap.size 1)=some (dy (a:Int))/\w'.cell? (ay w.heap.size 2)=some (dy (b:Int))/\w'.cell? (ay w.heap.size 3)=some (dy (c:Int))/\w'.cell? (ay w.heap.size 4)=some (P0 fb)/\w'.cell? (ay w.heap.size 5)=some (P0 tb)/\w'.cell? (ay w.heap.size 6)=some (P0 eb)/\w'.cell? (ay eb 27)=some (P0 sb))):=
    λw' hO=>⟨(hO.cell lx u).trans x0,(hO.cell lx u).trans x1,(hO.cell lx u).trans x2,(hO.cell lx u).trans x3,(hO.cell lx u).trans x4,(hO.cell lx u).trans x5,(hO.cell lx u).trans x6,(hO.cell ag aT).trans ((bd G.out (a:=ay eb 27) le).1.trans aE)⟩
   have aO:=bj (HS.out w4.drew (dw _ _));go_wp2_with fail
   go_region_held3 (λw'=>w'.cell? (ay w.heap.size 0)=some (dy (op:Int))/\w'.cell? (ay w.heap.size 1)=some (dy (a:Int))/\w'.cell? (ay w.heap.size 2)=some (dy (b:Int))/\w'.cell? (ay w.heap.size 3)=some (dy (c:Int))/\w'.cell? (ay w.heap.size 4)=some (P0 fb)/\w'.cell? (ay w.heap.size 5)=some (P0 tb)/\w'.cell? (ay w.heap.size 6)=some (P0 eb)/\w'.cell? (ay eb 27)=some (P0 sb)) (first|exact aO.out|exact aW.out|exact aY.out|exact aV.out) (first|(go_at_call 86;refine du (rz op a b c fb tb eb cb L nx rb nr back R w4.drew (W.out.kept (bo (aw _ _))).1 (W.out.kept (bo (aw _ _))).2.1 hb) λw5 y=>?_;have a3:Hid (w4.grownBy w5 none):=⟨y.os,y.tape,y.output,y.size,y.block⟩;have aW:=bj (HS.out w5 (ep a3.out));clear y)|(go_at_call 159;refine du (aS.out w5 (ar G.out a3.out)) λw6 aI=>?_;have J:=bj (ar a3.out aI);have aY:=bj (HS.out w6 (ep J.out));clear aI)|(go_at_call 149;refine du (kH op a b c fb tb eb cb L nx rb nr back R aU w6 (W.out.kept J.out).1 (W.out.kept J.out).2.1 ha) ?_;rintro w7 ⟨Z,aH⟩;have aV:=bj (HS.out w7 ((ep (S:=λk=>k=rb) J.out).then Z (af rfl)));have HR:=bj (bh (ar (eT (ar G.out J.out)) Z) (bh (da Z (W.out.kept J.out).1 (by intro e;injection e with e;exact KF.out.2.2 e)) aH));clear Z aH))
   all_goals
    go_wp2_with fail
    go_ret;exact af ⟨aA.out,rfl,HR.out.1,HR.out.2.1,by rw[aN.out,aC.out];exact HR.out.2.2,KF.out.2.2⟩
  have aX:=uf vb.f (R b) (R c);generalize aF:iP vb.f (R b) (R c)=why at *;have aP:=bj aF;injection he with he;injection he with he;injection he with a7 o;injection o with o _;injection o with _ o;subst a7 o;have aA:=bj H;have aZ:¬((why:Int)=0):=ag
  clear H aF aX;go_wp2_with fail
  go_ret;exact ah ⟨aA.out,jx aP.out,G.out⟩
end F
section
def kG(ok : Bool) (m mt : Nat) : Int := if ok = false then 4 else if m = mt then 7 else 0
def Je(op a b c fb tb eb sb m ck ff mt num:Nat)(x y cg:B.V)(ok:Bool)(ao:Option Addr)(R:aa→Prop)(R1:aa→Prop)(w:aa)(hb:∀w1,w.grownBy w1 none→Calls prog 86 #[ed op a b c fb tb eb] w1 fun e w'=>e=.returned (vA x)∧w1.grownBy w' none)(hf:∀w1,w.grownBy w1 none→Calls prog 162 #[P0 sb,vA x] w1 fun e w'=>e=.returned (.tuple #[aj ff,vA cg,.bool ok])∧w1.grownBy w' none)(hc:∀w1,w.grownBy w1 none→Calls prog 94 #[ed op a b c fb tb eb] w1 fun e w'=>e=.returned (vA y)∧w1.grownBy w' none)(he:ok=true→m≠mt→∀w1,w.grownBy w1 none→w.heap.size<w1.heap.size→Calls prog 60 #[P0 eb,aj ff,vA y,vA cg] w1 fun e w'=>e=.returned (aj num)∧R1 w'∧∀k,w.heap.size≤k→k<w1.heap.size→w'.heap[k]? = w1.heap[k]?)(hst:∀w1 w2,R1 w1→w1.grownBy w2 none→Calls prog 149 #[ed op a b c fb tb eb,vA (0,(num:Int))] w2 fun e w'=>e=.returned (.tuple #[])∧R w'∧w'.heap[w.heap.size]? = w2.heap[w.heap.size]?)(h0:∀w1,w.grownBy w1 none→(ok=false∨m=mt)→R w1)(c27:w.cell? (ay eb 27)=some (P0 sb))(c29:w.cell? (ay eb 29)=some (.slice ao m ck))(c3:w.cell? (ay eb 3)=some (aj mt)): Calls prog 108 #[ed op a b c fb tb eb] w fun e w'=>e=.returned (aj (kG ok m mt))∧R w':=by
 have HB:=bj hb
 have HF:=bj hf
 have HC:=bj hc
 have HE:=bj he
 have H0:=bj h0
 have le:=gM c27
 have HST:=bj hst
 clear hb hf hc he h0 hst
 go_in
 go_wp2_with fail
 have HX1:=bj (iN w op a b c fb tb eb)
 have KG1:=bj (ak w (.cells #[dy op,dy a,dy b,dy c,P0 fb,P0 tb,P0 eb] 186) none)
 generalize hW:w.alloc (.cells #[dy op,dy a,dy b,dy c,P0 fb,P0 tb,P0 eb] 186)=w1 at *
 have HZ1:Hid (w1.heap.size=w.heap.size+1):=by show _=_;rw[←hW];simp
 clear hW
 have HK:Hid (∀w',w.grownBy w' none→w'.heap[w.heap.size]? = some (ju op a b c fb tb eb)→(dS w' w.heap.size 0)=some (dy op)∧(dS w' w.heap.size 1)=some (dy a)∧(dS w' w.heap.size 2)=some (dy b)∧(dS w' w.heap.size 3)=some (dy c)∧(dS w' w.heap.size 4)=some (P0 fb)∧(dS w' w.heap.size 5)=some (P0 tb)∧(dS w' w.heap.size 6)=some (P0 eb)∧(dS w' eb 27)=some (P0 sb)):=fun w' hg hx=>by
  obtain⟨x0,x1,x2,x3,x4,x5,x6⟩:=eZ hx
  exact⟨x0,x1,x2,x3,x4,x5,x6,(bd hg (a:=ay eb 27) le).1.trans c27⟩
 have HKS:Hid (∀(w':aa) (B:Nat) (u v:Value),w.grownBy w' none→w'.heap[w.heap.size]? = some (ju op a b c fb tb eb)→w.heap.size<B→w.grownBy ((w'.setCell (ay B 0) u).setCell (ay B 1) v) none∧((w'.setCell (ay B 0) u).setCell (ay B 1) v).heap[w.heap.size]? = some (ju op a b c fb tb eb)):=fun w' B u v hg hx hB=>
  ⟨bu (bu hg (ah (jd hB)) _) (ah (jd hB)) _,((ab _ _ _ _ (oI hB)).trans (ab _ _ _ _ (oI hB))).trans hx⟩
 have HKT:Hid (∀(w':aa) (B:Nat) (u v:Value) (hg:w.grownBy w' none) (hx:w'.heap[w.heap.size]? = some (ju op a b c fb tb eb)) (hB:w.heap.size<B),_):=fun w' B u v hg hx hB=>HK _ (HKS w' B u v hg hx hB).1 (HKS w' B u v hg hx hB).2
 have HZ:Hid (∀(w':aa) (o:Obj) (k:Nat) (o':Obj),w'.heap[k]? = some o'→(w'.alloc o).heap[k]? = some o'):=fun w' o k o' hk=>by
  rw[av _ _ _ (ch hk)];exact hk
 go_region_held3 (fun w'=>dS w' w.heap.size 0=some (dy op)∧(dS w' w.heap.size 1)=some (dy a)∧(dS w' w.heap.size 2)=some (dy b)∧(dS w' w.heap.size 3)=some (dy c)∧(dS w' w.heap.size 4)=some (P0 fb)∧(dS w' w.heap.size 5)=some (P0 tb)∧(dS w' w.heap.size 6)=some (P0 eb)∧(dS w' eb 27)=some (P0 sb)) (first|exact HK _ (bo KG1) HX1|exact HK _ (ax (bo KG1) _) (HZ _ _ _ _ HX1)|exact HK _ KG2 HX2|exact HK _ (ax KG2 _) (HZ _ _ _ _ HX2)|exact HK _ KG3 HX3|exact HK _ (ax KG3 _) (HZ _ _ _ _ HX3)|exact HKT w3 _ _ _ KG3 HX3 HLB|exact HKT _ _ _ _ (ax KG3 _) (HZ _ _ _ _ HX3) (ch HX3)) (first|(go_at_call 86;refine du (HB w1.drew (bo KG1)) λw2 hg2=>?_;have KG2:Hid (w.grownBy w2 none):=ar (bo KG1) hg2;have HX2:=bj (dv hg2 (show w1.drew.heap[w.heap.size]? = _ from HX1));have HBX:Hid True:=trivial;clear hg2)|(go_at_call 86;refine du (HB (w1.drew.alloc (.cells #[aj 0,aj 0] 149)) (ax (bo KG1) _)) λw2 hg2=>?_;have KG2:Hid (w.grownBy w2 none):=ar (ax (bo KG1) _) hg2;have HX2:=bj (dv hg2 (HZ w1.drew _ _ _ HX1));have HBX:Hid (w2.heap[w1.heap.size]? = some (.cells #[aj 0,aj 0] 149 (0,0))):=dv hg2 (bl w1.drew _);clear hg2)|(go_at_call 162;refine du (HF w2 KG2) λw3 hg3=>?_;have KG3:Hid (w.grownBy w3 none):=ar KG2 hg3;have HX3:=bj (dv hg3 HX2);have hbx:=dv hg3 HBX;have HLB:Hid (w.heap.size<w1.heap.size):=(by show _<_;rw[HZ1.out];omega);have r0:dS w3 w1.heap.size 0=some (aj 0):=(by simp[World.cell?,hbx]);have r1:dS w3 w1.heap.size 1=some (aj 0):=(by simp[World.cell?,hbx]);have r2:w3.frozen? (ay w1.heap.size 0)=false:=(by simp[World.frozen?,hbx]);have r3:w3.frozen? (ay w1.heap.size 1)=false:=(by simp[World.frozen?,hbx]);have lB:=ch hbx;clear hbx;clear hg3)|(go_at_call 162;refine du (HF w2 KG2) λw3 hg3=>?_;have KG3:Hid (w.grownBy w3 none):=ar KG2 hg3;have HX3:=bj (dv hg3 HX2);clear hg3)|(go_at_call 162;refine du (HF (w2.alloc (.cells #[aj 0,aj 0] 149)) (ax KG2 _)) λw3 hg3=>?_;have KG3:Hid (w.grownBy w3 none):=ar (ax KG2 _) hg3;have HX3:=bj (dv hg3 (HZ w2 _ _ _ HX2));have hbx:w3.heap[w2.heap.size]? = some (.cells #[aj 0,aj 0] 149 (0,0)):=dv hg3 (bl w2 _);have HLB:Hid (w.heap.size<w2.heap.size):=ch HX2;have r0:dS w3 w2.heap.size 0=some (aj 0):=(by simp[World.cell?,hbx]);have r1:dS w3 w2.heap.size 1=some (aj 0):=(by simp[World.cell?,hbx]);have r2:w3.frozen? (ay w2.heap.size 0)=false:=(by simp[World.frozen?,hbx]);have r3:w3.frozen? (ay w2.heap.size 1)=false:=(by simp[World.frozen?,hbx]);have lB:=ch hbx;clear hbx;clear hg3))
 all_goals
  first
  |rename_i hh
   clear hh
   have KG4:Hid (w.grownBy (((w3.setCell (ay w2.heap.size 0) (aj cg.1)).setCell (ay w2.heap.size 1) (aj cg.2))) none):=(HKS w3 _ _ _ KG3 HX3 HLB).1
   have HX4:Hid ((((w3.setCell (ay w2.heap.size 0) (aj cg.1)).setCell (ay w2.heap.size 1) (aj cg.2))).heap[w.heap.size]? = some (ju op a b c fb tb eb)):=(HKS w3 _ _ _ KG3 HX3 HLB).2
   have u0:dS (((w3.setCell (ay w2.heap.size 0) (aj cg.1)).setCell (ay w2.heap.size 1) (aj cg.2))) w2.heap.size 0=some (aj cg.1):=by simp[go_sem,r0,r1,r2,r3,lB]
   have u1:dS (((w3.setCell (ay w2.heap.size 0) (aj cg.1)).setCell (ay w2.heap.size 1) (aj cg.2))) w2.heap.size 1=some (aj cg.2):=by simp[go_sem,r0,r1,r2,r3,lB]
   clear r0 r1 r2 r3 lB
   have lB:=gM u0
   have HBW:Hid (w.heap.size≤w2.heap.size):=jd HLB
   generalize ((w3.setCell (ay w2.heap.size 0) (aj cg.1)).setCell (ay w2.heap.size 1) (aj cg.2))=w4 at *
   generalize w2.heap.size=B at *
  |rename_i hh
   clear hh
   have KG4:Hid (w.grownBy (((w3.setCell (ay w1.heap.size 0) (aj cg.1)).setCell (ay w1.heap.size 1) (aj cg.2))) none):=(HKS w3 _ _ _ KG3 HX3 HLB).1
   have HX4:Hid ((((w3.setCell (ay w1.heap.size 0) (aj cg.1)).setCell (ay w1.heap.size 1) (aj cg.2))).heap[w.heap.size]? = some (ju op a b c fb tb eb)):=(HKS w3 _ _ _ KG3 HX3 HLB).2
   have u0:dS (((w3.setCell (ay w1.heap.size 0) (aj cg.1)).setCell (ay w1.heap.size 1) (aj cg.2))) w1.heap.size 0=some (aj cg.1):=by simp[go_sem,r0,r1,r2,r3,lB]
   have u1:dS (((w3.setCell (ay w1.heap.size 0) (aj cg.1)).setCell (ay w1.heap.size 1) (aj cg.2))) w1.heap.size 1=some (aj cg.2):=by simp[go_sem,r0,r1,r2,r3,lB]
   clear r0 r1 r2 r3 lB
   have lB:=gM u0
   have HBW:Hid (w.heap.size≤w1.heap.size):=jd HLB
   generalize ((w3.setCell (ay w1.heap.size 0) (aj cg.1)).setCell (ay w1.heap.size 1) (aj cg.2))=w4 at *
   generalize w1.heap.size=B at *
  |rename_i hh
   clear hh
   have KG4:Hid (w.grownBy ((w3.alloc (.cells #[aj cg.1,aj cg.2] 149))) none):=ax KG3 _
   have HX4:Hid (((w3.alloc (.cells #[aj cg.1,aj cg.2] 149))).heap[w.heap.size]? = some (ju op a b c fb tb eb)):=HZ _ _ _ _ HX3
   have u0:dS ((w3.alloc (.cells #[aj cg.1,aj cg.2] 149))) w3.heap.size 0=some (aj cg.1):=by simp[go_sem]
   have u1:dS ((w3.alloc (.cells #[aj cg.1,aj cg.2] 149))) w3.heap.size 1=some (aj cg.2):=by simp[go_sem]
   have lB:=gM u0
   have HBW:Hid (w.heap.size≤w3.heap.size):=KG3.size
   generalize (w3.alloc (.cells #[aj cg.1,aj cg.2] 149))=w4 at *
   generalize w3.heap.size=B at *
 all_goals
  obtain⟨x0,x1,x2,x3,x4,x5,x6⟩:=eZ HX4
  have lx:=ch HX4
  have d29:=(bd KG4 (a:=ay eb 29) le).1.trans c29
  have d3:=(bd KG4 (a:=ay eb 3) le).1.trans c3
  have le4:eb<w4.heap.size:=dm le KG4.size
  cases ok with
  |false=>
   go_wp2
   go_ret
   exact⟨rfl,H0 _ KG4 (af (by first|rfl|trivial))⟩
  |true=>
   by_cases hm:m=mt
   .have hmi:(m:Int)=mt:=ag
    have HM:=bj hm
    clear hm
    go_wp2
    go_quiet (fail)
    go_wp2
    go_ret
    exact⟨by have h:=HM.out;simp[kG,h],H0 _ (df KG4 _) (ah HM)⟩
   .have hmi:¬((m:Int)=mt):=ag
    have HM:=bj hm
    clear hm
    go_wp2
    go_quiet (fail)
    have KGQ:Hid (w.grownBy (w4.drewN nq) none):=df KG4 _
    have HXQ:Hid ((w4.drewN nq).heap[w.heap.size]? = some (ju op a b c fb tb eb)):=HX4
    have v0:dS (w4.drewN nq) B 0=some (aj cg.1):=u0
    have v1:dS (w4.drewN nq) B 1=some (aj cg.2):=u1
    have lBQ:B<(w4.drewN nq).heap.size:=lB
    clear u0 u1 lB x0 x1 x2 x3 x4 x5 x6 lx d29 d3 le4
    generalize w4.drewN nq=w9 at *
    obtain⟨x0,x1,x2,x3,x4,x5,x6⟩:=eZ HXQ
    have lx:=ch HXQ
    go_wp2_with fail
    have HS:Hid (∀w',w9.grownBy w' none→(dS w' w.heap.size 0)=some (dy op)∧(dS w' w.heap.size 1)=some (dy a)∧(dS w' w.heap.size 2)=some (dy b)∧(dS w' w.heap.size 3)=some (dy c)∧(dS w' w.heap.size 4)=some (P0 fb)∧(dS w' w.heap.size 5)=some (P0 tb)∧(dS w' w.heap.size 6)=some (P0 eb)∧(dS w' B 0)=some (aj cg.1)∧(dS w' B 1)=some (aj cg.2)):=fun w' hg=>by
     obtain⟨x0,x1,x2,x3,x4,x5,x6⟩:=eZ (dv hg HXQ)
     exact⟨x0,x1,x2,x3,x4,x5,x6,(bd hg (a:=ay B 0) lBQ).1.trans v0,(bd hg (a:=ay B 1) lBQ).1.trans v1⟩
    have HS6F:Hid (∀w5 w':aa,w9.grownBy w5 none→(∀k,w.heap.size≤k→k<w5.heap.size→w'.heap[k]? = w5.heap[k]?)→(dS w' w.heap.size 0)=some (dy op)∧(dS w' w.heap.size 1)=some (dy a)∧(dS w' w.heap.size 2)=some (dy b)∧(dS w' w.heap.size 3)=some (dy c)∧(dS w' w.heap.size 4)=some (P0 fb)∧(dS w' w.heap.size 5)=some (P0 tb)∧(dS w' w.heap.size 6)=some (P0 eb)∧(dS w' B 0)=some (aj cg.1)∧(dS w' B 1)=some (aj cg.2)):=fun w5 w' hg hk=>by
     obtain⟨y0,y1,y2,y3,y4,y5,y6,y7,y8⟩:=HS w5 hg
     have hz:=hg.size
     have e1:=hk w.heap.size (bq _) ag
     have e2:=hk B HBW ag
     exact⟨(az (a:=ay w.heap.size 0) e1).trans y0,(az (a:=ay w.heap.size 1) e1).trans y1,(az (a:=ay w.heap.size 2) e1).trans y2,(az (a:=ay w.heap.size 3) e1).trans y3,(az (a:=ay w.heap.size 4) e1).trans y4,(az (a:=ay w.heap.size 5) e1).trans y5,(az (a:=ay w.heap.size 6) e1).trans y6,(az (a:=ay B 0) e2).trans y7,(az (a:=ay B 1) e2).trans y8⟩
    have HS0:=bj (HS w9.drew (bo (aw _ _)))
    go_region_held3 (fun w'=>dS w' w.heap.size 0=some (dy op)∧(dS w' w.heap.size 1)=some (dy a)∧(dS w' w.heap.size 2)=some (dy b)∧(dS w' w.heap.size 3)=some (dy c)∧(dS w' w.heap.size 4)=some (P0 fb)∧(dS w' w.heap.size 5)=some (P0 tb)∧(dS w' w.heap.size 6)=some (P0 eb)∧(dS w' B 0)=some (aj cg.1)∧(dS w' B 1)=some (aj cg.2)) (first|exact HS0|exact HS5|exact HS6) (first|(go_at_call 94;refine du (HC w9.drew (bo KGQ)) λw5 hg5=>?_;have KG5:Hid (w9.grownBy w5 none):=⟨hg5.os,hg5.tape,hg5.output,hg5.size,hg5.block⟩;have HS5:=bj (HS w5 KG5);clear hg5)|(go_at_call 60;refine du (HE (by first|rfl|trivial) HM w5 (ar KGQ KG5) (dm (ch HXQ) KG5.size)) ?_;rintro w6 ⟨hR6,hK6⟩;have HR6:=bj hR6;have HS6:=bj (HS6F w5 w6 KG5 hK6);have HX6:Hid (w6.heap[w.heap.size]? = some (ju op a b c fb tb eb)):=(hK6 w.heap.size (bq _) (dm (ch HXQ) KG5.size)).trans (dv KG5 HXQ);clear hR6 hK6))
    all_goals
     clear x0 x1 x2 x3 x4 x5 x6 v0 v1
     obtain⟨x0,x1,x2,x3,x4,x5,x6⟩:=eZ HX6
     have lx6:=ch HX6
     go_wp2_with fail
     have HY7:Hid ((w6.drew.alloc (.cells #[aj 0,aj num] 149)).heap[w.heap.size]? = some (ju op a b c fb tb eb)):=HZ w6.drew _ _ _ HX6
     go_region_held3 (fun w'=>dS w' w.heap.size 0=some (dy op)∧(dS w' w.heap.size 1)=some (dy a)∧(dS w' w.heap.size 2)=some (dy b)∧(dS w' w.heap.size 3)=some (dy c)∧(dS w' w.heap.size 4)=some (P0 fb)∧(dS w' w.heap.size 5)=some (P0 tb)∧(dS w' w.heap.size 6)=some (P0 eb)) (first|exact eZ (show w6.drew.heap[w.heap.size]? = _ from HX6)|exact eZ HY7|exact eZ HY8) (first|(go_at_call 61;refine du (fG _ _) ?_;rintro w7 rfl)|(go_at_call 149;refine du (HST w6 _ HR6 (ax (bo (aw _ _)) _)) ?_;rintro w8 ⟨hR8,hK8⟩;have HR8:=bj hR8;have HY8:Hid (w8.heap[w.heap.size]? = some (ju op a b c fb tb eb)):=hK8.trans HY7;clear hR8 hK8))
     all_goals
      go_wp2
      go_ret
      exact⟨by have h:=HM.out;simp[kG,h],HR8⟩
def ry(ok:Bool)(m:Nat):Int:=if ok=false then 4 else if m=20 then 5 else 0
def Ms(op a b c fb tb eb sb m ck ff:Nat)(x y i:B.V)(ok:Bool)(ao:Option Addr)(R:aa->Prop)(w:aa)(hb:∀w1,w.grownBy w1 none->dD 86 #[ed op a b c fb tb eb] w1 (vA x) λw'=>w1.grownBy w' none)(hf:∀w1,w.grownBy w1 none->dD 162 #[P0 sb,vA x] w1 (.tuple #[aj ff,vA i,.bool ok]) λw'=>w1.grownBy w' none)(hc:∀w1,w.grownBy w1 none->dD 94 #[ed op a b c fb tb eb] w1 (vA y) λw'=>w1.grownBy w' none)(he:ok=true->m≠20->∀w1,w.grownBy w1 none->eL 119 #[P0 eb,P0 tb,aj ff,vA y,vA i,.func (.func 149) #[ed op a b c fb tb eb] #[]] w1 λw'=>R w'/\∀k,w.heap.size<=k->k<w1.heap.size->w'.heap[k]? = w1.heap[k]?)(h0:∀w1,w.grownBy w1 none->(ok=false\/m=20)->R w1)(aB:w.cell? (ay eb 27)=some (P0 sb))(c1:w.cell? (ay tb 1)=some (.slice ao m ck)): dD 104 #[ed op a b c fb tb eb] w (aj (ry ok m)) λw'=>R w':=by
 have HB:=bj hb;have HF:=bj hf;have HC:=bj hc;have HE:=bj he;have H0:=bj h0;have le:=gM aB;have lt:=gM c1;clear hb hf hc he h0;delta dD;go_in;go_wp2_with fail
 have a8:=bj (iN w op a b c fb tb eb);have a5:=bj (ak w (.cells #[dy op,dy a,dy b,dy c,P0 fb,P0 tb,P0 eb] 186) none);generalize hW:w.alloc (.cells #[dy op,dy a,dy b,dy c,P0 fb,P0 tb,P0 eb] 186)=w1 at *;have aL:Hid (w1.heap.size=w.heap.size+1):=by show _=_;rw[<-hW];simp
 clear hW;have HK:Hid (∀w',w.grownBy w' none->w'.heap[w.heap.size]? = some (ju op a b c fb tb eb)->w'.cell? (ay w.heap.size 0)=some (dy op)/\w'.cell? (ay w.heap.size 1)=some (dy a)/\w'.cell? (ay w.heap.size 2)=some (dy b)/\w'.cell? (ay w.heap.size 3)=some (dy c)/\w'.cell? (ay w.heap.size 4)=some (P0 fb)/\w'.cell? (ay w.heap.size 5)=some (P0 tb)/\w'.cell? (ay w.heap.size 6)=some (P0 eb)/\w'.cell? (ay eb 27)=some (P0 sb)):=λw' hg hx=>by
  obtain⟨x0,x1,x2,x3,x4,x5,x6⟩:=eZ hx;exact⟨x0,x1,x2,x3,x4,x5,x6,(bd hg (a:=ay eb 27) le).1.trans aB⟩
 have a4:Hid (∀(w':aa) (B:Nat) (u v:Value),w.grownBy w' none->w'.heap[w.heap.size]? = some (ju op a b c fb tb eb)->w.heap.size<B->w.grownBy ((w'.setCell (ay B 0) u).setCell (ay B 1) v) none/\((w'.setCell (ay B 0) u).setCell (ay B 1) v).heap[w.heap.size]? = some (ju op a b c fb tb eb)):=λw' B u v hg hx hB=>
  ⟨bu (bu hg (ah (jd hB)) _) (ah (jd hB)) _,((ab _ _ _ _ (oI hB)).trans (ab _ _ _ _ (oI hB))).trans hx⟩
 have aE:Hid (∀(w':aa) (B:Nat) (u v:Value) (hg:w.grownBy w' none) (hx:w'.heap[w.heap.size]? = some (ju op a b c fb tb eb)) (hB:w.heap.size<B),_):=λw' B u v hg hx hB=>HK _ (a4 w' B u v hg hx hB).1 (a4 w' B u v hg hx hB).2;have HZ:Hid (∀(w':aa) (o:Obj) (k:Nat) (o':Obj),w'.heap[k]? = some o'->(w'.alloc o).heap[k]? = some o'):=λw' o k o' hk=>by
  rw[av _ _ _ (ch hk)];exact hk
 go_region_held3 (λw'=>w'.cell? (ay w.heap.size 0)=some (dy op)/\w'.cell? (ay w.heap.size 1)=some (dy a)/\w'.cell? (ay w.heap.size 2)=some (dy b)/\w'.cell? (ay w.heap.size 3)=some (dy c)/\w'.cell? (ay w.heap.size 4)=some (P0 fb)/\w'.cell? (ay w.heap.size 5)=some (P0 tb)/\w'.cell? (ay w.heap.size 6)=some (P0 eb)/\w'.cell? (ay eb 27)=some (P0 sb)) (first|exact HK _ (bo a5) a8|exact HK _ (ax (bo a5) _) (HZ _ _ _ _ a8)|exact HK _ a0 a3|exact HK _ (ax a0 _) (HZ _ _ _ _ a3)|exact HK _ W Y|exact HK _ (ax W _) (HZ _ _ _ _ Y)|exact aE G _ _ _ W Y a1|exact aE _ _ _ _ (ax W _) (HZ _ _ _ _ Y) (ch Y)) (first|(go_at_call 86;refine du (HB w1.drew (bo a5)) λw2 a2=>?_;have a0:Hid (w.grownBy w2 none):=ar (bo a5) a2;have a3:=bj (dv a2 (show w1.drew.heap[w.heap.size]? = _ from a8));clear a2)|(go_at_call 86;refine du (HB (w1.drew.alloc (.cells #[aj 0,aj 0] 149)) (ax (bo a5) _)) λw2 a2=>?_;have a0:Hid (w.grownBy w2 none):=ar (ax (bo a5) _) a2;have a3:=bj (dv a2 (HZ w1.drew _ _ _ a8));have aC:Hid (w2.heap[w1.heap.size]? = some (.cells #[aj 0,aj 0] 149 (0,0))):=dv a2 (bl w1.drew _);clear a2)|(go_at_call 162;refine du (HF w2 a0) λG J=>?_;have W:Hid (w.grownBy G none):=ar a0 J;have Y:=bj (dv J a3);have H:=dv J aC;have a1:Hid (w.heap.size<w1.heap.size):=(by show _<_;rw[aL.out];omega);have r0:G.cell? (ay w1.heap.size 0)=some (aj 0):=(by simp[World.cell?,H]);have r1:G.cell? (ay w1.heap.size 1)=some (aj 0):=(by simp[World.cell?,H]);have r2:G.frozen? (ay w1.heap.size 0)=false:=(by simp[World.frozen?,H]);have r3:G.frozen? (ay w1.heap.size 1)=false:=(by simp[World.frozen?,H]);have lB:=ch H;clear H;clear J)|(go_at_call 162;refine du (HF w2 a0) λG J=>?_;have W:Hid (w.grownBy G none):=ar a0 J;have Y:=bj (dv J a3);clear J)|(go_at_call 162;refine du (HF (w2.alloc (.cells #[aj 0,aj 0] 149)) (ax a0 _)) λG J=>?_;have W:Hid (w.grownBy G none):=ar (ax a0 _) J;have Y:=bj (dv J (HZ w2 _ _ _ a3));have H:G.heap[w2.heap.size]? = some (.cells #[aj 0,aj 0] 149 (0,0)):=dv J (bl w2 _);have a1:Hid (w.heap.size<w2.heap.size):=ch a3;have r0:G.cell? (ay w2.heap.size 0)=some (aj 0):=(by simp[World.cell?,H]);have r1:G.cell? (ay w2.heap.size 1)=some (aj 0):=(by simp[World.cell?,H]);have r2:G.frozen? (ay w2.heap.size 0)=false:=(by simp[World.frozen?,H]);have r3:G.frozen? (ay w2.heap.size 1)=false:=(by simp[World.frozen?,H]);have lB:=ch H;clear H;clear J))
 all_goals
  first
  |rename_i hh
   clear hh;have Z:Hid (w.grownBy (((G.setCell (ay w2.heap.size 0) (aj i.1)).setCell (ay w2.heap.size 1) (aj i.2))) none):=(a4 G _ _ _ W Y a1).1;have a7:Hid ((((G.setCell (ay w2.heap.size 0) (aj i.1)).setCell (ay w2.heap.size 1) (aj i.2))).heap[w.heap.size]? = some (ju op a b c fb tb eb)):=(a4 G _ _ _ W Y a1).2;have u0:(((G.setCell (ay w2.heap.size 0) (aj i.1)).setCell (ay w2.heap.size 1) (aj i.2))).cell? (ay w2.heap.size 0)=some (aj i.1):=by simp[go_sem,r0,r1,r2,r3,lB]
   have u1:(((G.setCell (ay w2.heap.size 0) (aj i.1)).setCell (ay w2.heap.size 1) (aj i.2))).cell? (ay w2.heap.size 1)=some (aj i.2):=by simp[go_sem,r0,r1,r2,r3,lB]
   clear r0 r1 r2 r3 lB;have lB:=gM u0;have a9:Hid (w.heap.size<=w2.heap.size):=jd a1;generalize ((G.setCell (ay w2.heap.size 0) (aj i.1)).setCell (ay w2.heap.size 1) (aj i.2))=w4 at *;generalize w2.heap.size=B at *
  |rename_i hh
   clear hh;have Z:Hid (w.grownBy (((G.setCell (ay w1.heap.size 0) (aj i.1)).setCell (ay w1.heap.size 1) (aj i.2))) none):=(a4 G _ _ _ W Y a1).1;have a7:Hid ((((G.setCell (ay w1.heap.size 0) (aj i.1)).setCell (ay w1.heap.size 1) (aj i.2))).heap[w.heap.size]? = some (ju op a b c fb tb eb)):=(a4 G _ _ _ W Y a1).2;have u0:(((G.setCell (ay w1.heap.size 0) (aj i.1)).setCell (ay w1.heap.size 1) (aj i.2))).cell? (ay w1.heap.size 0)=some (aj i.1):=by simp[go_sem,r0,r1,r2,r3,lB]
   have u1:(((G.setCell (ay w1.heap.size 0) (aj i.1)).setCell (ay w1.heap.size 1) (aj i.2))).cell? (ay w1.heap.size 1)=some (aj i.2):=by simp[go_sem,r0,r1,r2,r3,lB]
   clear r0 r1 r2 r3 lB;have lB:=gM u0;have a9:Hid (w.heap.size<=w1.heap.size):=jd a1;generalize ((G.setCell (ay w1.heap.size 0) (aj i.1)).setCell (ay w1.heap.size 1) (aj i.2))=w4 at *;generalize w1.heap.size=B at *
  |rename_i hh
   clear hh;have Z:Hid (w.grownBy ((G.alloc (.cells #[aj i.1,aj i.2] 149))) none):=ax W _;have a7:Hid (((G.alloc (.cells #[aj i.1,aj i.2] 149))).heap[w.heap.size]? = some (ju op a b c fb tb eb)):=HZ _ _ _ _ Y;have u0:((G.alloc (.cells #[aj i.1,aj i.2] 149))).cell? (ay G.heap.size 0)=some (aj i.1):=by simp[go_sem]
   have u1:((G.alloc (.cells #[aj i.1,aj i.2] 149))).cell? (ay G.heap.size 1)=some (aj i.2):=by simp[go_sem]
   have lB:=gM u0;have a9:Hid (w.heap.size<=G.heap.size):=W.size;generalize (G.alloc (.cells #[aj i.1,aj i.2] 149))=w4 at *;generalize G.heap.size=B at *
 all_goals
  obtain⟨x0,x1,x2,x3,x4,x5,x6⟩:=eZ a7;have lx:=ch a7;have d1:=(bd Z (a:=ay tb 1) lt).1.trans c1;have aO:tb<w4.heap.size:=dm lt Z.size;have aN:eb<w4.heap.size:=dm le Z.size
  cases ok with
  |false=>
   go_wp2_with fail
   go_ret;exact⟨rfl,H0 _ Z (af (by first|rfl|trivial))⟩
  |true=>
   by_cases hm:m=20
   .have aM:(m:Int)=20:=ag
    have HM:=bj hm;clear hm;go_wp2_with fail
    go_ret;exact⟨jx HM.out,H0 _ Z (ah HM)⟩
   have aM:¬((m:Int)=20):=ag
   have HM:=bj hm;clear hm;go_wp2_with fail
   have HS:Hid (∀w',w4.grownBy w' none->w'.cell? (ay w.heap.size 0)=some (dy op)/\w'.cell? (ay w.heap.size 1)=some (dy a)/\w'.cell? (ay w.heap.size 2)=some (dy b)/\w'.cell? (ay w.heap.size 3)=some (dy c)/\w'.cell? (ay w.heap.size 4)=some (P0 fb)/\w'.cell? (ay w.heap.size 5)=some (P0 tb)/\w'.cell? (ay w.heap.size 6)=some (P0 eb)/\w'.cell? (ay B 0)=some (aj i.1)/\w'.cell? (ay B 1)=some (aj i.2)):=λw' hg=>by
    obtain⟨x0,x1,x2,x3,x4,x5,x6⟩:=eZ (dv hg a7);exact⟨x0,x1,x2,x3,x4,x5,x6,(bd hg (a:=ay B 0) lB).1.trans u0,(bd hg (a:=ay B 1) lB).1.trans u1⟩
   have aD:Hid (∀w5 w':aa,w4.grownBy w5 none->(∀k,w.heap.size<=k->k<w5.heap.size->w'.heap[k]? = w5.heap[k]?)->w'.cell? (ay w.heap.size 0)=some (dy op)/\w'.cell? (ay w.heap.size 1)=some (dy a)/\w'.cell? (ay w.heap.size 2)=some (dy b)/\w'.cell? (ay w.heap.size 3)=some (dy c)/\w'.cell? (ay w.heap.size 4)=some (P0 fb)/\w'.cell? (ay w.heap.size 5)=some (P0 tb)/\w'.cell? (ay w.heap.size 6)=some (P0 eb)/\w'.cell? (ay B 0)=some (aj i.1)/\w'.cell? (ay B 1)=some (aj i.2)):=λw5 w' hg hk=>by
    obtain⟨y0,y1,y2,y3,y4,y5,y6,y7,y8⟩:=HS w5 hg;have hz:=hg.size;have e1:=hk w.heap.size (bq _) ag;have e2:=hk B a9 ag;exact⟨(az (a:=ay w.heap.size 0) e1).trans y0,(az (a:=ay w.heap.size 1) e1).trans y1,(az (a:=ay w.heap.size 2) e1).trans y2,(az (a:=ay w.heap.size 3) e1).trans y3,(az (a:=ay w.heap.size 4) e1).trans y4,(az (a:=ay w.heap.size 5) e1).trans y5,(az (a:=ay w.heap.size 6) e1).trans y6,(az (a:=ay B 0) e2).trans y7,(az (a:=ay B 1) e2).trans y8⟩
   have aJ:=bj (HS w4.drew (bo (aw _ _)));go_region_held3 (λw'=>w'.cell? (ay w.heap.size 0)=some (dy op)/\w'.cell? (ay w.heap.size 1)=some (dy a)/\w'.cell? (ay w.heap.size 2)=some (dy b)/\w'.cell? (ay w.heap.size 3)=some (dy c)/\w'.cell? (ay w.heap.size 4)=some (P0 fb)/\w'.cell? (ay w.heap.size 5)=some (P0 tb)/\w'.cell? (ay w.heap.size 6)=some (P0 eb)/\w'.cell? (ay B 0)=some (aj i.1)/\w'.cell? (ay B 1)=some (aj i.2)) (first|exact aJ|exact aK|exact aH) (first|(go_at_call 94;refine du (HC w4.drew (bo Z)) λw5 a6=>?_;have aA:Hid (w4.grownBy w5 none):=⟨a6.os,a6.tape,a6.output,a6.size,a6.block⟩;have aK:=bj (HS w5 aA);clear a6)|(go_at_call 119;refine du (HE (by first|rfl|trivial) HM w5 (ar Z aA)) ?_;rintro w6 ⟨aF,aG⟩;have aI:=bj aF;have aH:=bj (aD w5 w6 aA aG);clear aF aG))
   all_goals
    go_wp2_with fail
    go_ret;exact⟨by have h:=HM.out;simp[ry,h],aI⟩
end
namespace D
open F
abbrev vF:=Nat×Nat×Nat×Nat
structure Dp where
 n:Nat
 qn:Nat
 wk:Nat
 mt:Nat
 nf:Nat
 gb:Nat
 gc:Nat
 cb:Nat->Nat
 cc:Nat->Nat
 len:Nat->Nat
 rg:Nat->Nat
 ins:Nat->Nat->vF
structure Dt where
 fr:List jc
 how:Nat
 into:Int
 what:Nat
 lH:Int
 jw:Nat
 out:B.V
structure Dc where
 all:Nat
 bg:Bool
 lK:Int
 sure:Nat
 nF:Nat
 gw:Int
 xK:Int
 fu:Bool
structure Dm where
 nt:Nat
 T:Nat->Dt
 q:List Nat
 ft:Nat->List Nat
 nc:Nat
 M:Nat->List B.V
 ck:Nat->Nat
 jw:Nat
 sp:Bool
 ev:List tU
 clk:Int
 G:Dc
structure Dg where
 mb:Nat
 ro:Nat->Nat->Option Addr×Nat
 rb:Nat->Nat->Nat
 sb:Nat->Nat
abbrev jk(x:Int):Value:=.int .i64 x
def sg(m:Dm)(x y:Nat):Nat:=if x=1 then m.nt else if x=2 then m.q.length else if x=3 then m.nc else if x=4 then m.ev.length else if x=5 then(m.T y).fr.length else(m.ft y).length
def je(m:Dm)(g:Dg)(x y:Nat):Value:=.slice (g.ro x y).1 (sg m x y) (g.ro x y).2
def mE(p:Dp)(m:Dm)(g:Dg)(j:Nat):Value:=
 if j=0 then .slice (some ⟨p.gb,0,none⟩) p.nf p.gc else if j=1 then jk p.n else if j=2 then jk p.qn else if j=3 then jk p.wk else if j=4 then jk p.mt else if j=5 then jk m.clk
 else if j=6 then je m g 1 0 else if j=7 then je m g 2 0 else if j<12 then je m g 10 (j-8) else if j=12 then je m g 3 0
 else if j=13 then jk m.jw else if j=14 then .bool m.sp else if j=15 then je m g 4 0 else if j=16 then jk m.G.all else if j=17 then .bool m.G.bg else if j=18 then jk m.G.lK else if j=19 then jk m.G.sure else if j=20 then jk m.G.nF else if j=21 then jk m.G.gw else if j=22 then jk m.G.xK else .bool m.G.fu
def tC(x:Dt)(fv:Value)(k:Nat):Value:=
 if k=0 then fv else if k=1 then jk x.how else if k=2 then jk x.into else if k=3 then jk x.what else if k=4 then jk x.lH else if k=5 then jk x.jw else if k=6 then jk x.out.1 else jk x.out.2
def tE(m:Dm)(g:Dg)(j:Nat):Value:=tC (m.T (j / 8+1)) (je m g 5 (j / 8+1)) (j % 8)
def fU(m:Dm)(t i:Nat):jc:=(m.T t).fr.getD i n6
def fC(p:Dp)(f:jc)(rb:Nat)(k:Nat):Value:=
 if k=0 then jk f.f else if k=1 then .slice (some ⟨rb,0,none⟩) (p.rg f.f) (p.rg f.f) else if k=2 then jk f.nx else jk f.bk.2.1
def fE(p:Dp)(m:Dm)(g:Dg)(t j:Nat):Value:=fC p (fU m t (j / 4)) (g.rb t (j / 4)) (j % 4)
def cE(m:Dm)(g:Dg)(j:Nat):Value:=
 if j % 2=0 then .slice (some ⟨g.sb (j / 2+1),0,none⟩) (m.M (j / 2+1)).length (m.M (j / 2+1)).length else jk ((m.ck (j / 2+1):Int)-1)
def mW(l:List B.V):Nat->B.V:=λi=>l.getD i (0,0)
def rowP(n:Nat)(P:Nat->Value):List Value:=(List.range n).map P
def jJ(l:List Nat):List Value:=l.map (λ(x:Nat)=>jk (x:Int))
def Ob.q(e:TypeId)(ad:Option Addr)(n c:Nat)(xs:List Value):Ob:=⟨λk=>fi ad=some k,λw=>gd w e (.slice ad n c) xs,λ_ _ h hk=>h.block (λk e=>hk k (by rw[<-dF ad n c];exact e)),λ_ k h e=>h.lt k (by rw[dF];exact e)⟩
def Md(p:Dp)(j:Nat):Value:=if j % 2=0 then jk (p.rg (j / 2)) else .slice (some ⟨p.cb (j / 2),0,none⟩) (p.len (j / 2)) (p.cc (j / 2))
def FZ(p:Dp)(f j:Nat):Value:=jk (if j % 4=0 then(p.ins f (j / 4)).1 else if j % 4=1 then(p.ins f (j / 4)).2.1 else if j % 4=2 then(p.ins f (j / 4)).2.2.1 else(p.ins f (j / 4)).2.2.2:Nat)
def vd(p:Dp)(m:Dm)(x y z:Nat):Bool:=
 if x<=4\/x=8 then decide (y=0/\z=0) else if x=5 then decide (1<=y/\y<=m.nt/\z=0) else if x=6 then decide (1<=y/\y<=m.nt/\z<(m.T y).fr.length)
 else if x=7 then decide (1<=y/\y<=m.nc/\z=0) else if x=9 then decide (y<p.nf/\z=0) else decide (x=10/\y<4/\z=0)
def Oi(x:Nat):TypeId:=if x=1 then 167 else if x=3 then 233 else if x=4 then 48 else 163
def Oj(x:Nat):Nat:=if x=1 then 8 else if x=3 then 2 else if x=4 then 3 else 4
def rC(p:Dp)(m:Dm)(g:Dg)(x y:Nat):List Value:=if x=1 then rowP (m.nt*8) (tE m g) else if x=3 then rowP (m.nc*2) (cE m g) else if x=4 then mA m.ev else rowP ((m.T y).fr.length*4) (fE p m g y)
def qC(m:Dm)(x y:Nat):List Value:=if x=2 then jJ m.q else iI (m.ft y)
def ok(p:Dp)(m:Dm)(g:Dg)(x y z:Nat):Ob:=
 if x=0 then .full g.mb 112 24 (mE p m g)
 else if x=6 then .full (g.rb y z) 115 (p.rg (fU m y z).f*2) (eQ (fU m y z).R)
 else if x=7 then .full (g.sb y) 115 ((m.M y).length*2) (eQ (mW (m.M y)))
 else if x=8 then .row 89 2 (some ⟨p.gb,0,none⟩) p.nf p.gc (rowP (p.nf*2) (Md p))
 else if x=9 then .row 90 4 (some ⟨p.cb y,0,none⟩) (p.len y) (p.cc y) (rowP (p.len y*4) (FZ p y))
 else if x=2\/x=10 then Ob.q (if x=2 then 3 else 5) (g.ro x y).1 (sg m x y) (g.ro x y).2 (qC m x y)
 else .row (Oi x) (Oj x) (g.ro x y).1 (sg m x y) (g.ro x y).2 (rC p m g x y)
def ob(p:Dp)(m:Dm)(g:Dg)(x y z:Nat):Ob:=if vd p m x y z=true then ok p m g x y z else .nil
structure dZ(p:Dp) (m:Dm) (g:Dg) (w:aa):Prop where
 o:∀x y z,(ob p m g x y z).ok w
 i:∀x y z x' y' z' k,(ob p m g x y z).bs k->(ob p m g x' y' z').bs k->x=x'/\y=y'/\z=z'
def eH(p:Dp)(m:Dm)(g:Dg)(k:Nat):Prop:=∃x y z,(ob p m g x y z).bs k
structure Tr(p:Dp) (m:Dm) (g:Dg) (w:aa) (m':Dm) (g':Dg) (w':aa):Prop where
 r:dZ p m' g' w'
 o:dM (eH p m g) w w'
 m:∀k,eH p m' g' k->eH p m g k\/w.heap.size<=k
 b:g'.mb=g.mb
variable {p:Dp}{m m' m'':Dm}{g g' g'':Dg}{w w' w'':aa}
theorem dZ.lt(h:dZ p m g w){k:Nat}(e:eH p m g k):k<w.heap.size:=by
 obtain⟨x,y,z,e⟩:=e;exact(ob p m g x y z).lt w k (h.o x y z) e
def dZ.only(h:dZ p m g w){S:Nat->Prop}(u:dM S w w')(hS:∀k,eH p m g k->¬S k):dZ p m g w':=
 ⟨λx y z=>(ob p m g x y z).fr w w' (h.o x y z) (λk e=>u.same (h.lt ⟨x,y,z,e⟩) (hS k ⟨x,y,z,e⟩)),h.i⟩
def dZ.kept(h:dZ p m g w)(e:w.grownBy w' none):dZ p m g w':=h.only (S:=λ_=>False) (ep e) (λ_ _ h=>h)
theorem Tr.refl(h:dZ p m g w):Tr p m g w m g w:=⟨h,dw _ _,λ_ h=>af h,rfl⟩
theorem Tr.trans(h:Tr p m g w m' g' w')(e:Tr p m' g' w' m'' g'' w''):Tr p m g w m'' g'' w'':=
 ⟨e.r,h.o.trans e.o (λk i y=>(h.m k i).resolve_right ag),λk i=>by
  rcases e.m k i with u|u
  .exact h.m k u
  have:=h.o.size;omega,e.b.trans h.b⟩
theorem Tr.kept(h:Tr p m g w m' g' w')(e:w'.grownBy w'' none):Tr p m g w m' g' w'':=⟨h.r.kept e,h.o.iW e,h.m,h.b⟩
theorem Tr.ahead{w0:aa}(e:w0.grownBy w none)(h:Tr p m g w m' g' w'):Tr p m g w0 m' g' w':=
 ⟨h.r,(ep e).trans h.o (λ_ h _=>h),λk i=>(h.m k i).imp id (λh=>by have:=e.size;omega),h.b⟩
def Tr.to{m0:Dm}{Z:Dg}{w0:aa}(C:Nat->Nat->Nat->Prop)(own:Nat->Nat×Nat×Nat)(W:Tr p m0 Z w0 m g w)(hO:dM (λk=>∃x y z,C x y z/\(ob p m g x y z).bs k) w w')(h1:∀x y z,¬C x y z->ob p m' g' x y z=ob p m g x y z)(h2:∀x y z,C x y z->(ob p m' g' x y z).ok w')(h3:∀x y z k,C x y z->(ob p m' g' x y z).bs k->(ob p m g x y z).bs k\/(¬eH p m g k/\w0.heap.size<=k/\own k=(x,y,z)))(J:g'.mb=g.mb:=by rfl):Tr p m0 Z w0 m' g' w':=by
 have h:=W.r;have u:=λx y z k e=>by
  by_cases G:C x y z
  .exact h3 x y z k G e
  rw[h1 x y z G]at e;exact af e
 refine⟨⟨λx y z=>?_,λx y z x' y' z' k e H=>?_⟩,W.o.trans hO (λk e hl=>?_),λk e=>?_,J.trans W.b⟩
 .by_cases G:C x y z
  .grind
  rw[h1 x y z G];refine(ob p m g x y z).fr w w' (h.o x y z) (λk e=>hO.same (h.lt ⟨x,y,z,e⟩) ?_);grind[b,D.dZ.i]
 .rcases u _ _ _ k e with a|⟨a,_,b⟩
  .rcases u _ _ _ k H with c|⟨c,_⟩
   .grind[D.dZ.i]
   exact dp ⟨_,_,_,a⟩ c
  rcases u _ _ _ k H with c|⟨c,_,d⟩
  .exact dp ⟨_,_,_,c⟩ a
  grind
 .obtain⟨x,y,z,_,J⟩:=e;exact(W.m k ⟨x,y,z,J⟩).resolve_right ag
 obtain⟨x,y,z,e⟩:=e;rcases u x y z k e with h|h
 .exact W.m k ⟨x,y,z,h⟩
 omega
theorem dZ.to(C:Nat->Nat->Nat->Prop)(own:Nat->Nat×Nat×Nat)(h:dZ p m g w)(W:dM (λk=>∃x y z,C x y z/\(ob p m g x y z).bs k) w w')(G:∀x y z,¬C x y z->ob p m' g' x y z=ob p m g x y z)(u:∀x y z,C x y z->(ob p m' g' x y z).ok w')(o:∀x y z k,C x y z->(ob p m' g' x y z).bs k->(ob p m g x y z).bs k\/(w.heap.size<=k/\own k=(x,y,z)))(i:g'.mb=g.mb:=by rfl):Tr p m g w m' g' w':=
 Tr.to C own (Tr.refl h) W G u (λx y z k H e=>(o x y z k H e).imp id (λY=>⟨λJ=>by have:=h.lt J;omega,Y⟩)) i
def FX(x:Nat):Prop:=x=1\/x=3\/x=4\/x=5
def ok_eq{x y z:Nat}(e0:x=0->g'.mb=g.mb/\mE p m' g'=mE p m g:=by intro e;exact⟨rfl,rfl⟩)(er:FX x->g'.ro x y=g.ro x y/\sg m' x y=sg m x y/\rC p m' g' x y=rC p m g x y:=by intro e;exact⟨rfl,rfl,rfl⟩)(eq:x=2\/x=10->g'.ro x y=g.ro x y/\sg m' x y=sg m x y/\qC m' x y=qC m x y:=by intro e;rcases e with rfl|rfl<;>exact⟨rfl,rfl,rfl⟩)(e6:x=6->g'.rb y z=g.rb y z/\(fU m' y z).f=(fU m y z).f/\(fU m' y z).R=(fU m y z).R:=by intro e;exact⟨rfl,rfl,rfl⟩)(e7:x=7->g'.sb y=g.sb y/\m'.M y=m.M y:=by intro e;exact⟨rfl,rfl⟩)(hx:x<=10):ok p m' g' x y z=ok p m g x y z:=by
 unfold ok;by_cases G:x=0
 .grind
 rw[au G,au G];by_cases o:x=6
 .grind
 rw[au o,au o];by_cases u:x=7
 .grind
 rw[au u,au u];by_cases J:x=8
 .grind
 rw[au J,au J];by_cases H:x=9
 .grind
 rw[au H,au H];by_cases i:x=2\/x=10
 .grind
 have W:FX x:=by unfold FX;omega
 grind
theorem ie{x y z:Nat}(h:vd p m x y z=true):ob p m g x y z=ok p m g x y z:=by unfold ob;grind
def A7{x y z:Nat}(h:¬vd p m x y z=true):ob p m g x y z=.nil:=by unfold ob;grind
def l9{x y z:Nat}(h:vd p m x y z=true):x<=10:=by
 unfold vd at h;grind
def kT{x y z:Nat}(i:vd p m' x y z=vd p m x y z)(e:vd p m x y z=true->ok p m' g' x y z=ok p m g x y z):ob p m' g' x y z=ob p m g x y z:=by
 unfold ob;grind
def Ds(o:m'.nt=m.nt)(i:∀t,(m'.T t).fr.length=(m.T t).fr.length)(e:m'.nc=m.nc)(x y z:Nat):vd p m' x y z=vd p m x y z:=by grind[vd]
def oQ{x:Nat}(h:x<=4\/x=8):vd p m x 0 0=true:=by unfold vd;grind
theorem kS{x y z:Nat}(e:vd p m x y z=true)(h:x<=4\/x=8):y=0/\z=0:=by
 unfold vd at e;grind
def rP{t:Nat}(i:1<=t)(e:t<=m.nt):vd p m 5 t 0=true:=by unfold vd;grind
theorem vG{y z:Nat}(e:vd p m 5 y z=true):1<=y/\y<=m.nt/\z=0:=by
 unfold vd at e;grind
def zI{t i:Nat}(u:1<=t)(e:t<=m.nt)(o:i<(m.T t).fr.length):vd p m 6 t i=true:=by unfold vd;grind
def xQ{y z:Nat}(e:vd p m 6 y z=true):1<=y/\y<=m.nt/\z<(m.T y).fr.length:=by
 unfold vd at e;grind
def I2{c:Nat}(i:1<=c)(e:c<=m.nc):vd p m 7 c 0=true:=by unfold vd;grind
def AG{y z:Nat}(e:vd p m 7 y z=true):1<=y/\y<=m.nc/\z=0:=by
 unfold vd at e;grind
def K5{f:Nat}(e:f<p.nf):vd p m 9 f 0=true:=by unfold vd;grind
def vH{k:Nat}(e:k<4):vd p m 10 k 0=true:=by unfold vd;grind
def I1{y z:Nat}(e:vd p m 10 y z=true):y<4/\z=0:=by
 unfold vd at e;grind
end D
namespace D
open F
variable {e:TypeId}{g sz:Nat}{w:aa}
theorem mZ(n:Nat)(P:Nat->Value)(j:Nat):(rowP n P)[j]? = if j<n then some (P j) else none:=by
 unfold rowP;grind
def AX{n:Nat}{P:Nat->Value}{xs:List Value}(i:xs.length=n)(h:∀j,j<n->xs[j]? = some (P j)):xs=rowP n P:=by
 apply List.ext_getElem?
 intro j;rw[mZ];grind
def jA{n:Nat}{P Q:Nat->Value}(h:∀j,j<n->P j=Q j):rowP n P=rowP n Q:=List.map_congr_left (λj e=>h j (fI.1 e))
def uh{n k:Nat}{P Q:Nat->Value}{ys:List Value}(h:∀j,j<n->Q j=P j)(o:ys.length=k)(i:∀j,j<k->ys[j]? = some (Q (n+j))):rowP n P++ys=rowP (n+k) Q:=by
 have hn:(rowP n P).length=n:=by unfold rowP;simp
 refine AX eR (λj u=>?_);by_cases e:j<n
 .rw[fk ag,mZ,bf e,h j e]
 grind
def ux{i n c:Nat}{P:Nat->Value}(h:w.ownsRow i e sz (dA g n c) n (rowP (n*sz) P)):n<=c/\c<=maxLen/\Full w g e (c*sz) (n*sz) P:=by
 rcases h with⟨_,⟨h,_⟩|⟨g',c',o,G,_,Z,Y,W,J,H⟩⟩
 .cases h
 cases G;refine⟨Y,W,o,Z,J,λj u=>?_⟩;have y:=mZ (n*sz) P j;grind
def nZ{n c:Nat}{P:Nat->Value}(hn:n<=c)(u:c<=maxLen)(h:Full w g e (c*sz) (n*sz) P):w.ownsRow 0 e sz (dA g n c) n (rowP (n*sz) P):=by
 obtain⟨i,H,y,G⟩:=h;refine⟨by grind[rowP],ah ⟨g,c,i,rfl,dk _,H,hn,u,y,?_⟩⟩;refine AX ?_ (λj o=>?_)
 .simp_all
 grind
def uv{n c:Nat}{ad:Option Addr}{P:Nat->Value}(h:w.ownsRow 0 e sz (.slice ad n c) n (rowP (n*sz) P))(hn:n≠0):∃b,ad=some (ay b 0)/\n<=c/\c<=maxLen/\Full w b e (c*sz) (n*sz) P:=by
 obtain⟨b,o,e⟩:=ee h hn;injection e with i _ _;subst i;exact⟨b,rfl,ux h⟩
def Full.down{n m k:Nat}{T:TypeId}{P:Nat->Value}(h:Full w g T n m P)(y:k<=m):Full w g T n k P:=by
 obtain⟨e,u,o,i⟩:=h;exact⟨e,u,o,λj G=>i j ag⟩
variable {p:Dp}{m m':Dm}{g g':Dg}{w w':aa}
def dZ.at'(h:dZ p m g w){x y z:Nat}(e:vd p m x y z=true):(ok p m g x y z).ok w:=by
 have:=h.o x y z;grind[ie]
abbrev mY(m:Dm)(t:Nat):Prop:=1<=t/\t<=m.nt
section
variable (h:dZ p m g w)
include h
theorem dZ.M:Full w g.mb 112 24 24 (mE p m g):=h.at' (x:=0) (y:=0) (z:=0) rfl
def dZ.Tw:w.ownsRow 0 167 8 (je m g 1 0) m.nt (rowP (m.nt*8) (tE m g)):=h.at' (x:=1) (y:=0) (z:=0) rfl
theorem dZ.T(hn:m.nt≠0):∃b,(g.ro 1 0).1=some (ay b 0)/\m.nt<=(g.ro 1 0).2/\(g.ro 1 0).2<=maxLen/\Full w b 167 ((g.ro 1 0).2*8) (m.nt*8) (tE m g):=uv h.Tw hn
def dZ.Q:gd w 3 (je m g 2 0) (jJ m.q):=h.at' (x:=2) (y:=0) (z:=0) rfl
def dZ.E:w.ownsRow 0 48 3 (je m g 4 0) m.ev.length (mA m.ev):=h.at' (x:=4) (y:=0) (z:=0) rfl
def dZ.Cw:w.ownsRow 0 233 2 (je m g 3 0) m.nc (rowP (m.nc*2) (cE m g)):=h.at' (x:=3) (y:=0) (z:=0) rfl
theorem dZ.C(hn:m.nc≠0):∃b,(g.ro 3 0).1=some (ay b 0)/\m.nc<=(g.ro 3 0).2/\(g.ro 3 0).2<=maxLen/\Full w b 233 ((g.ro 3 0).2*2) (m.nc*2) (cE m g):=uv h.Cw hn
def dZ.Fw{t:Nat}(ht:mY m t):w.ownsRow 0 163 4 (je m g 5 t) (m.T t).fr.length (rowP ((m.T t).fr.length*4) (fE p m g t)):=h.at' (rP ht.1 ht.2)
theorem dZ.F{t:Nat}(ht:mY m t)(hn:(m.T t).fr.length≠0):∃b,(g.ro 5 t).1=some (ay b 0)/\(m.T t).fr.length<=(g.ro 5 t).2/\(g.ro 5 t).2<=maxLen/\Full w b 163 ((g.ro 5 t).2*4) ((m.T t).fr.length*4) (fE p m g t):=uv (h.Fw ht) hn
def dZ.R{t i:Nat}(ht:mY m t)(hi:i<(m.T t).fr.length):Full w (g.rb t i) 115 (p.rg (fU m t i).f*2) (p.rg (fU m t i).f*2) (eQ (fU m t i).R):=h.at' (zI ht.1 ht.2 hi)
def dZ.S{c:Nat}(i:1<=c)(e:c<=m.nc):Full w (g.sb c) 115 ((m.M c).length*2) ((m.M c).length*2) (eQ (mW (m.M c))):=h.at' (I2 i e)
def dZ.P:p.nf<=p.gc/\p.gc<=maxLen/\Full w p.gb 89 (p.gc*2) (p.nf*2) (Md p):=ux (h.at' (x:=8) (y:=0) (z:=0) rfl)
def dZ.K{f:Nat}(e:f<p.nf):p.len f<=p.cc f/\p.cc f<=maxLen/\Full w (p.cb f) 90 (p.cc f*4) (p.len f*4) (FZ p f):=ux (h.at' (K5 e))
def dZ.B{k:Nat}(e:k<4):gd w 5 (je m g 10 k) (iI (m.ft k)):=h.at' (vH e)
theorem dZ.ne{x y z x' y' z' k G:Nat}(J:vd p m x y z=true)(o:vd p m x' y' z'=true)(H:(ok p m g x y z).bs k)(u:(ok p m g x' y' z').bs G)(hn:x≠x'\/y≠y'\/z≠z'):k≠G:=λe=>by
 subst e;obtain⟨Z,Y,W⟩:=h.i x y z x' y' z' k (by grind[ie]) (by grind[ie]);omega
def dZ.mc(j:Nat)(e:j<24){v:Value}(i:mE p m g j=v):w.cell? (ay g.mb j)=some v/\w.frozen? (ay g.mb j)=false:=by
 rw[<-i];exact h.M.cells j e
end
theorem qK(m:Dm)(g:Dg){t k j:Nat}(ht:1<=t)(e:k<8)(i:j=(t-1)*8+k):tE m g j=tC (m.T t) (je m g 5 t) k:=by
 grind[tE]
def uR(p:Dp)(m:Dm)(g:Dg)(t:Nat){i k:Nat}(e:k<4):fE p m g t (i*4+k)=fC p (fU m t i) (g.rb t i) k:=by
 grind[fE]
structure Tc(w:aa) (tb t:Nat) (x:Dt) (fv:Value):Prop where
 c:∀k,k<8->w.cell? ⟨tb,(t-1)*8+k,none⟩=some (tC x fv k)/\w.frozen? ⟨tb,(t-1)*8+k,none⟩=false
def dZ.tc(h:dZ p m g w){t:Nat}(ht:mY m t):∃tb,g.ro 1 0=(some (ay tb 0),(g.ro 1 0).2)/\Full w tb 167 ((g.ro 1 0).2*8) (m.nt*8) (tE m g)/\Tc w tb t (m.T t) (je m g 5 t):=by
 obtain⟨b,o,y,u,e⟩:=h.T ag;refine⟨b,fV o rfl,e,⟨λk i=>?_⟩⟩;grind[qK,Full.cells]
end D
namespace F
def A1{w:aa}{pb n p i:Nat}{on:Nat->Bool}{f:Fb}{M:Nat->List B.V}(v:B.V)(h:oW w pb n on f M)(W:1<=p)(Z:p<=n)(Y:on p=true)(hi:i<(M p).length): oW ((w.setCell (ay (f.b p) (i*2)) (aj v.1)).setCell (ay (f.b p) (i*2+1)) (aj v.2)) pb n on f (B.lay M p ((M p).set i v)):=by
 have G:=h.s p W Z Y;obtain⟨a0,hV,_⟩:=id G;obtain⟨J,hP,_⟩:=id h.p;have H:=eE hP hV ek;refine⟨((h.p.off H).off H).congr (λj _=>?_),λq a b c=>?_,h.i,λq a=>?_,λq a h0=>?_⟩
 .grind[jI,B.iB,B.gh]
 .by_cases e:q=p
  .subst e;rw[B.iB];simp only[eA];refine(G.oK i v).congr (λj _=>?_);have hs:∀x,B.set (lM M q) i v x=lM (B.lay M q ((M q).set i v)) q x:=by
    intro x;unfold lM;rw[B.iB,cr,List.getElem?_set];by_cases y:x=i
    .simp_all[B.jN,bf]
    rw[B.iX _ _ _ _ y,au (λh=>y h.symm),cr]
   grind[eQ]
  rw[B.gh _ _ _ _ e];have u:f.b q≠f.b p:=λhe=>e (h.i q p a b W Z c Y he);have:=((h.s q a b c).off (o:=i*2) (v:=aj v.1) u).off (o:=i*2+1) (v:=aj v.2) u;refine this.congr (λj _=>?_);simp_all[eQ,lM,B.gh]
 .by_cases e:q=p
  .subst e;rw[B.iB];simpa using h.l q a
  rw[B.gh _ _ _ _ e];exact h.l q a
 grind[B.iB,B.gh,F.oW.k]
def yg(sb pb eb n nr k i:Nat)(x:Int)(v:B.V)(kd:B.Kd)(vb:Vs)(s:B.St)(w:aa)(hS:kD w sb pb eb n kd vb s.2.2)(hH:B.jO kd nr n s)(hn:n<=200)(hk:k<n)(hr:B.Reach nr s (k+1))(hi:i<(s.2.2 (k+1)).length): eL 160 #[P0 sb,vA (k+1,x),aj i,vA v] w λw'=>∃aE,kD w' sb pb eb n (B.told kd ((s.2.2 (k+1)).getD i (0,0))) aE (B.lay s.2.2 (k+1) ((s.2.2 (k+1)).set i v))/\dM (Own n kd vb) w w'/\pW n kd vb (B.told kd ((s.2.2 (k+1)).getD i (0,0))) aE w.heap.size/\aE.f=vb.f:=by
 have KS:=bj hS;have HH:=bj hH;have a6:=(B.mI hH hr).1;have h0:=hS.c0;have c2:=hS.cells.2.1;have ls:=ch hS.b;have lp:=hS.p.p.lt;have p2:=hS.p.p.cell (k*3+2) ag;rw[uu,a6]at p2;have aJ:qo true (vb.f.b (k+1)) (s.2.2 (k+1)).length=dA (vb.f.b (k+1)) (s.2.2 (k+1)).length (s.2.2 (k+1)).length:=rfl;rw[aJ]at p2;have hF:=hS.p.s (k+1) ag ag a6;have lf:=hF.lt;have HF:=bj hF;have aZ:=bj (nT k x ag);have bF:=hS.p.l _ a6;have HI:=bj (bh a6 hi);have b5:(k:Int)<(n:Int):=ag
 have bK:(i:Int)<((s.2.2 (k+1)).length:Int):=ag
 obtain⟨s0,f0⟩:=hF.cells (i*2) ag;obtain⟨s1,f1⟩:=hF.cells (i*2+1) ag;rw[ph]at s0;rw[pf]at s1;have aO:Hid ((lM s.2.2 (k+1) i)=(s.2.2 (k+1)).getD i (0,0)):=rfl;have aN:=B.uH hH hr i;have aT:=λh0=>(B.mI hH (aN.2 h0)).2.2;have aU:=bj aT;generalize b0:lM s.2.2 (k+1) i=o at *;have aH:=bj aO.out.symm;clear hS hH hr aJ hF aN aT b0 aO;generalize aM:(s.2.2 (k+1)).length=m at *;have aS:=bj aM;clear aM;delta eL;go_in;go_wp2_with fail
 generalize hW:(w.alloc (.cells #[aj ((k:Int)+1),aj x] 149)).alloc (.cells #[aj (v.1:Int),aj v.2] 149)=w1;have aF:Hid (w.grownBy w1 none):=by rw[<-hW];exact ax (ak _ _ _) _
 have aK:w1.heap[w.heap.size+1]? = some (.cells #[aj (v.1:Int),aj v.2] 149 (0,0)):=by
  rw[<-hW];have:=bl (w.alloc (.cells #[aj ((k:Int)+1),aj x] 149)) (.cells #[aj (v.1:Int),aj v.2] 149);simpa using this
 have a5:w1.heap[w.heap.size]? = some (.cells #[aj ((k:Int)+1),aj x] 149 (0,0)):=by
  rw[<-hW,av _ _ _ eB];exact bl w _
 clear hW;have b1:=bj aK;have a0:w1.cell? (ay w.heap.size 0)=some (aj ((k:Int)+1)):=fy a5
 have a1:w1.cell? (ay w.heap.size 1)=some (aj x):=fy a5
 have lv:=ch a5;have aG:sb<w1.heap.size:=ag
 have d0:=(bd aF.out (a:=ay sb 0) ls).1.trans h0;have b2:=bj p2;clear a5 aK h0 p2;go_cut [8] from 9 to 19 (λy wx=>y=.pointer (some (ay (vb.f.b (k+1)) (i*2)))/\Hid (w.grownBy wx none)/\Hid (wx.heap[w.heap.size+1]? = some (.cells #[aj (v.1:Int),aj v.2] 149 (0,0))))
 case first=>
  go_region_with (go_at_call 201;refine du (aZ.out _) λw2 Z=>?_;have a8:Hid (w1.grownBy w2 none):=⟨Z.os,Z.tape,Z.output,Z.size,Z.block⟩;have a4:=bj (ar aF.out a8.out);have d2:=(bd a8.out (a:=ay sb 0) aG).1.trans d0;have q2:=(bd a4.out (a:=ay pb (k*3+2)) lp).1.trans b2.out;clear Z)
  all_goals
   go_wp2_with fail
   go_meet
   case rel=>exact⟨rfl,a4,da a8.out b1.out im⟩
 case rest=>
  obtain⟨rfl,H,aC⟩:=hcut;have bA:=H.out.size;have e2:=(bd H.out (a:=ay sb 2) ls).1.trans c2;have t0:=(bd H.out (a:=ay (vb.f.b (k+1)) (i*2)) lf).1.trans s0;have t1:=(bd H.out (a:=ay (vb.f.b (k+1)) (i*2+1)) lf).1.trans s1;have z0:=(bd H.out (a:=ay (vb.f.b (k+1)) (i*2)) lf).2.trans f0;have z1:=(bd H.out (a:=ay (vb.f.b (k+1)) (i*2+1)) lf).2.trans f1;have aW:sb<wc.heap.size:=ag
  have a9:vb.f.b (k+1)<wc.heap.size:=ag
  have u0:wc.cell? (ay (w.heap.size+1) 0)=some (aj (v.1:Int)):=by have:=aC.out;simp[World.cell?,this]
  have u1:wc.cell? (ay (w.heap.size+1) 1)=some (aj v.2):=by have:=aC.out;simp[World.cell?,this]
  have lu:=ch aC.out;clear a0 a1 d0 c2 s0 s1 f0 f1;have u:=bj (KS.out.kept H.out);have aD:Own n kd vb (vb.f.b (k+1)):=af ⟨k+1,ag,ag,HI.out.1,rfl⟩;have Y:=bj aD;rcases hcy:kd.cy with _|c
  .rw[oa hcy]at e2;have G:=bj hcy;clear hcy aD;go_wp2_with fail
   go_end0;refine⟨rfl,vb,?_,bp (bp (ep H.out) (af Y.out) _) (af Y.out) _,?_,rfl⟩
   .rw[told_none _ G.out];have a2:=u.out.kI.2 _ Y.out;exact⟨((ab _ _ _ _ (λe=>a2.1 e.symm)).trans (ab _ _ _ _ (λe=>a2.1 e.symm))).trans u.out.b,A1 v u.out.p ag ag HI.out.1 (eV aS.out HI.out.2),λc hc=>by rw[G.out]at hc;cases hc⟩
   rw[told_none _ G.out];exact pW.refl _ _ _ _
  rw[n9 hcy]at e2;have G:=bj hcy;clear hcy aD;obtain⟨_,T,_,aQ⟩:=HH.out.h3 c G.out;have aA:=dU aQ.len hn;have aY:=bj (λw' (h:mV w' vb.cb vb.rd sb n vb.ad vb.cap c)=>sj vb.cb vb.rd sb n vb.ad vb.cap c o w' h (by have:=aU.out;rw[aH.out]at this;exact this) hn aA);have aX:Hid (mV wc.drew vb.cb vb.rd sb n vb.ad vb.cap c):=(u.out.c c G.out).block (λ_ _=>rfl);have a7:Hid (∀y,oT vb.cb vb.rd vb.ad y->Own n kd vb y):=λy hy=>ah ⟨jx G.out,hy⟩;have aI:=(tH u.out.p (u.out.c c G.out)).2 _ ag ag HI.out.1;have aR:¬oT vb.cb vb.rd vb.ad (w.heap.size+1):=λh=>by have:=KS.out.lt _ (a7.out _ h);omega
  have J:=bj (bh aI aR);have HK:Hid (∀w':aa,dM (oT vb.cb vb.rd vb.ad) wc.drew w'->w'.cell? (ay (vb.f.b (k+1)) (i*2))=some (aj (o.1:Int))/\w'.cell? (ay (vb.f.b (k+1)) (i*2+1))=some (aj o.2)/\w'.frozen? (ay (vb.f.b (k+1)) (i*2))=false/\w'.frozen? (ay (vb.f.b (k+1)) (i*2+1))=false/\w'.cell? (ay (w.heap.size+1) 0)=some (aj (v.1:Int))/\w'.cell? (ay (w.heap.size+1) 1)=some (aj v.2)/\vb.f.b (k+1)<w'.heap.size/\w.heap.size+1<w'.heap.size):=λw' hO=>by
   have W:dM (oT vb.cb vb.rd vb.ad) wc w':=hO;have:=W.size;exact⟨(W.cell a9 J.out.1).trans t0,(W.cell a9 J.out.1).trans t1,(W.frozen a9 J.out.1).trans z0,(W.frozen a9 J.out.1).trans z1,(W.cell lu J.out.2).trans u0,(W.cell lu J.out.2).trans u1,ag,ag⟩
  clear aQ aA aI aR;go_wp2_with fail
  go_region_with (go_at_call 188;refine du (aY.out _ aX.out) ?_;rintro w4 ⟨aP,aL,h4,h5,h6⟩;obtain⟨bJ,bB,bH,b9,bE,bG,bI,bD⟩:=HK.out w4 h6;have b4:=bj (bh h4 (bh h5 h6));clear h4 h5 h6)
  all_goals
   go_wp2_with fail
   go_end0;obtain⟨h4,h5,h6⟩:=b4.out;have a3:dM (oT vb.cb vb.rd vb.ad) wc w4:=h6;have b3:w4.heap[sb]? = _:=(a3.same aW (λh=>(KS.out.kI.2 sb (a7.out _ h)).1 rfl)).trans u.out.b;have a2:=KS.out.kI.2 _ Y.out;have aV:oW w4 pb n kd.on vb.f s.2.2:=by
    have:=tH u.out.p (u.out.c c G.out);exact u.out.p.block (a3.same u.out.p.p.lt this.1) (λp a b d=>a3.same (u.out.p.s p a b d).lt (this.2 p a b d))
   have aB:∀y,oT vb.cb vb.rd aP y->y≠vb.f.b (k+1):=λy hy e=>by
    rcases h4.J1 hy with h|h
    .exact J.out.1 (by rw[<-e];exact h)
    have h':wc.heap.size<=y:=h;omega
   refine⟨rfl,{ vb with ad:=aP,cap:=aL },?_,?_,?_,rfl⟩
   .rw[aH.out,BQ _ G.out];refine⟨?_,A1 v aV ag ag HI.out.1 (eV aS.out HI.out.2),λc' hc=>?_⟩
    .refine((ab _ _ _ _ (λe=>a2.1 e.symm)).trans (ab _ _ _ _ (λe=>a2.1 e.symm))).trans (b3.trans ?_);rw[n9 G.out];rfl
    have e:(⟨(B.seen c.m c.st o).1,(B.seen c.m c.st o).2,c.nx⟩:B.Cy)=c':=by injection hc
    subst e;exact h5.block (λy hy=>(ab _ _ _ _ (aB y hy)).trans (ab _ _ _ _ (aB y hy)))
   .refine bp (bp ((ep (S:=Own n kd vb) H.out).trans a3 (λy hy _=>a7.out y hy)) (af Y.out) _) (af Y.out) _
   intro y hy;rcases hy with⟨p,a,b,d,e⟩|⟨_,hy⟩
   .exact af (af ⟨p,a,b,d,e⟩)
   rcases h4.J1 hy with h|h
   .exact af (a7.out y h)
   have h':wc.heap.size<=y:=h;exact ah ag
def C6(op a b c fb tb eb cb L nx rb nr sb pb n nt:Nat)(back:Value)(kd:B.Kd)(vb:Vs)(s:B.St)(R:Nat->B.V)(w:aa)(hF:Fr w fb cb L nx rb nr back R)(hS:kD w sb pb eb n kd vb s.2.2)(hH:B.jO kd nt n s)(hV:∀i,i<nr->B.sG kd.on n (R i))(aE:∀i,i<nr->(R i).1≠0->B.Reach nt s (R i).1)(hn:n<=200)(ha:a<nr)(hb:b<nr)(hc:c<nr)(aD:w.cell? (ay eb 27)=some (P0 sb))(le:eb<w.heap.size)(Y:¬Own n kd vb eb): Calls prog 102 #[ed op a b c fb tb eb] w λe w'=>(mJ vb.f s.2.2 (R a) (R b)/\e=.returned (aj 0)/\∃u,kD w' sb pb eb n (B.told kd ((s.2.2 (R a).1).getD (R b).2.toNat (0,0))) u (B.lay s.2.2 (R a).1 ((s.2.2 (R a).1).set (R b).2.toNat (R c)))/\dM (Own n kd vb) w w'/\pW n kd vb (B.told kd ((s.2.2 (R a).1).getD (R b).2.toNat (0,0))) u w.heap.size/\u.f=vb.f)\/(¬mJ vb.f s.2.2 (R a) (R b)/\e=.returned (aj (iP vb.f (R a) (R b)))/\w.grownBy w' none):=by
 have KF:=bj hF;have KS:=bj hS;have HH:=bj hH;have HV:=bj hV;have aN:=bj aE;have aO:=bj Y;clear hF hS hH hV aE Y;go_in;go_wp2_with fail
 have aB:=bj (iN w op a b c fb tb eb);have a9:=bj (ak w (.cells #[dy (op:Int),dy (a:Int),dy (b:Int),dy (c:Int),P0 fb,P0 tb,P0 eb] 186) none);generalize hW:w.alloc (.cells #[dy (op:Int),dy (a:Int),dy (b:Int),dy (c:Int),P0 fb,P0 tb,P0 eb] 186)=w1 at *;have b1:w1.heap.size=w.heap.size+1:=by rw[<-hW];simp
 clear hW;go_region_held3 (λw'=>w'.cell? (ay w.heap.size 0)=some (dy (op:Int))/\w'.cell? (ay w.heap.size 1)=some (dy (a:Int))/\w'.cell? (ay w.heap.size 2)=some (dy (b:Int))/\w'.cell? (ay w.heap.size 3)=some (dy (c:Int))/\w'.cell? (ay w.heap.size 4)=some (P0 fb)/\w'.cell? (ay w.heap.size 5)=some (P0 tb)/\w'.cell? (ay w.heap.size 6)=some (P0 eb)) (first|exact eZ aB.out|exact eZ aL.out|exact eZ aK.out|exact eZ a6.out) (first|(go_at_call 98;refine du (BF op a b c fb tb eb cb L nx rb nr back R w1.drew (KF.out.kept (bo a9.out)).1 (KF.out.kept (bo a9.out)).2.1 ha) λw2 a8=>?_;have a4:=bj (ar (bo a9.out) a8);have aL:=bj (dv a8 (show w1.drew.heap[w.heap.size]? = _ from aB.out));clear a8)|(go_at_call 86;refine du (rz op a b c fb tb eb cb L nx rb nr back R w2 (KF.out.kept a4.out).1 (KF.out.kept a4.out).2.1 hb) λw3 a2=>?_;have a1:=bj (ar a4.out a2);have aK:=bj (dv a2 aL.out);clear a2)|(go_at_call 158;refine(yf op a b c fb tb eb sb pb n (R a) (R b) kd vb s.2.2 w3 (KS.out.kept a1.out) hn (HV.out a ha) ((bd a1.out (a:=ay eb 27) le).1.trans aD) (dm le a1.out.size)).mono ?_;rintro e w4 ⟨v,rfl,a5,a3⟩;have y:=bj (ar a1.out a5);have a6:=bj (dv a5 aK.out);obtain⟨pv,wy,rfl⟩:∃(pv:Value) (wy:Int),v=.tuple #[pv,aj wy]:=(by rcases a3 with⟨_,h⟩|⟨_,h⟩;exact⟨_,_,h⟩;exact⟨_,_,h⟩);have aR:=bj a3;clear a5 a3))
 all_goals
  rcases aR.out with⟨J,he⟩|⟨J,he⟩
  .have aA:=bj J;obtain⟨o1,ok,o2,o3,o4⟩:=id J;have hp:1<=(R a).1/\(R a).1<=n/\kd.on (R a).1=true:=by
    rcases HV.out a ha with h|h
    .exact dp h o1
    exact⟨h.1,h.2.1,h.2.2.1⟩
   injection he with he;injection he with he;injection he with a7 o;injection o with o _;injection o with _ o;subst a7 o;obtain⟨i,hi⟩:∃i:Nat,(R b).2=(i:Int):=⟨(R b).2.toNat,ag⟩;obtain⟨k,hk⟩:∃k,(R a).1=k+1:=⟨(R a).1-1,ag⟩;have aM:i<(s.2.2 (k+1)).length:=by rw[hi,hk]at o4;omega
   have aH:B.Reach nt s (k+1):=by rw[<-hk];exact aN.out a ha o1
   have aC:∀w':aa,w.grownBy w' none->eL 160 #[P0 sb,vA (R a),aj (R b).2,vA (R c)] w' λw''=>∃u,kD w'' sb pb eb n (B.told kd ((s.2.2 (R a).1).getD (R b).2.toNat (0,0))) u (B.lay s.2.2 (R a).1 ((s.2.2 (R a).1).set (R b).2.toNat (R c)))/\dM (Own n kd vb) w' w''/\pW n kd vb (B.told kd ((s.2.2 (R a).1).getD (R b).2.toNat (0,0))) u w'.heap.size/\u.f=vb.f:=by
    intro w' hg;have e1:R a=(k+1,(R a).2):=fV hk rfl;rw[hk,hi];have:=yg sb pb eb n nt k i (R a).2 (R c) kd vb s w' (KS.out.kept hg) HH.out hn ag aH aM;rw[<-e1]at this;exact this
   have aV:=bj aC;generalize aJ:(R b).2=yy at *;have aG:=bj aJ;clear aJ;clear J ok o1 o2 o3 o4 hp hi hk aM aC aH;obtain⟨x0,x1,x2,x3,x4,x5,x6⟩:=eZ a6.out;have lx:=ch a6.out;have Y:¬Own n kd vb eb:=aO.out;have aQ:Hid (∀x,Own n kd vb x->x<w.heap.size):=KS.out.lt;have G:¬Own n kd vb w.heap.size:=λh=>by have:=aQ.out _ h;omega
   have HS:Hid (∀w':aa,dM (Own n kd vb) w4 w'->(w'.cell? (ay w.heap.size 0)=some (dy (op:Int))/\w'.cell? (ay w.heap.size 1)=some (dy (a:Int))/\w'.cell? (ay w.heap.size 2)=some (dy (b:Int))/\w'.cell? (ay w.heap.size 3)=some (dy (c:Int))/\w'.cell? (ay w.heap.size 4)=some (P0 fb)/\w'.cell? (ay w.heap.size 5)=some (P0 tb)/\w'.cell? (ay w.heap.size 6)=some (P0 eb)/\w'.cell? (ay eb 27)=some (P0 sb))):=
    λw' hO=>⟨(hO.cell lx G).trans x0,(hO.cell lx G).trans x1,(hO.cell lx G).trans x2,(hO.cell lx G).trans x3,(hO.cell lx G).trans x4,(hO.cell lx G).trans x5,(hO.cell lx G).trans x6,(hO.cell ag Y).trans ((bd y.out (a:=ay eb 27) le).1.trans aD)⟩
   have aP:=bj (HS.out w4.drew (dw _ _));have Z:=bj (KF.out.kept y.out);go_wp2_with fail
   go_region_held3 (λw'=>w'.cell? (ay w.heap.size 0)=some (dy (op:Int))/\w'.cell? (ay w.heap.size 1)=some (dy (a:Int))/\w'.cell? (ay w.heap.size 2)=some (dy (b:Int))/\w'.cell? (ay w.heap.size 3)=some (dy (c:Int))/\w'.cell? (ay w.heap.size 4)=some (P0 fb)/\w'.cell? (ay w.heap.size 5)=some (P0 tb)/\w'.cell? (ay w.heap.size 6)=some (P0 eb)/\w'.cell? (ay eb 27)=some (P0 sb)) (first|exact aP.out|exact aX.out|exact aZ.out|exact aS.out) (first|(go_at_call 98;refine du (BF op a b c fb tb eb cb L nx rb nr back R w4.drew (Z.out.kept (bo (aw _ _))).1 (Z.out.kept (bo (aw _ _))).2.1 ha) λw5 H=>?_;have a0:Hid (w4.grownBy w5 none):=⟨H.os,H.tape,H.output,H.size,H.block⟩;have aX:=bj (HS.out w5 (ep a0.out));clear H)|(go_at_call 94;refine du (sX op a b c fb tb eb cb L nx rb nr back R w5 (Z.out.kept a0.out).1 (Z.out.kept a0.out).2.1 hc) λw6 aI=>?_;have W:=bj (ar a0.out aI);have aZ:=bj (HS.out w6 (ep W.out));clear aI)|(go_at_call 160;refine du (aV.out w6 (ar y.out W.out)) ?_;rintro w7 ⟨u,k1,k2,k3,k4⟩;have aS:=bj (HS.out w7 ((ep (S:=Own n kd vb) W.out).trans k2 (λ_ h _=>h)));have HR:=bj (bh k1 (bh ((ep (S:=Own n kd vb) (ar y.out W.out)).trans k2 (λ_ h _=>h)) k3));have aT:=bj k4;have aW:w.heap.size<=w6.heap.size:=(ar y.out W.out).size;clear k1 k2 k3 k4))
   all_goals
    go_wp2_with fail
    go_ret;refine af ⟨aA.out,rfl,u,?_,HR.out.2.1,λx hx=>?_,aT.out⟩
    .rw[aG.out];exact HR.out.1
    rw[aG.out]at hx;exact(HR.out.2.2 x hx).imp id (λh=>dU aW h)
  have aY:=uf vb.f (R a) (R b);generalize aF:iP vb.f (R a) (R b)=why at *;have aU:=bj aF;injection he with he;injection he with he;injection he with a7 o;injection o with o _;injection o with _ o;subst a7 o;have aA:=bj J;have b0:¬((why:Int)=0):=ag
  clear J aF aY;go_wp2_with fail
  go_ret;exact ah ⟨aA.out,jx aU.out,y.out⟩
