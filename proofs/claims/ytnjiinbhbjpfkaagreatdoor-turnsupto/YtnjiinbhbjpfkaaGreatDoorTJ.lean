import Derived.Test.YtnjiinbhbjpfkaaGreatDoorTB
set_option maxRecDepth 100000
set_option maxHeartbeats 0
set_option linter.all false
namespace Go.Proofs.YtnjiinbhbjpfkaaGreatDoor
open Go.RowKit Go.Proofs.Tryz
section
theorem Ld(tb sb cap m fb:Nat)(w:aa)(c1:w.cell? (ay tb 1)=some (dA sb (m+1) cap))(o:w.cell? (ay sb m)=some (P0 fb))(i:m<=1000): dD 164 #[P0 tb] w (P0 fb) λw'=>w.grownBy w' none:=by
 delta dD;go_in;go_wp2
 go_quiet (fail)
 go_wp2
 go_ret;exact⟨rfl,df (aw _ _) _⟩
theorem Me(g c m o:Nat)(xs:List Value)(w:aa)(i:w.ownsRow o 184 1 (dA g (m+1) c) (m+1) xs)(a4:m<=1000): dD 165 #[dA g (m+1) c,aj (m:Int),aj ((m:Int)+1)] w (dA g m c) λw'=>w'.ownsRow o 184 1 (dA g m c) m xs.dropLast/\w.grownBy w' (some g):=by
 obtain⟨hb,hc,J,hl,y,u⟩:=gZ i;clear i;obtain⟨i0,hi,W,a2,a5⟩:=info_parts Tryz.Ha
 have cl:∀(ty:TypeId) (G:Nat),(Builtin.clear_ #[156] ty #[.slice (some (ay g m)) 1 G]).run prog w.drew=.ok (.tuple #[]) (w.drew.setCell (ay g m) (.pointer none)):=by
  intro ty G;refine Go.Lib.run_clear_slice (P:=prog) w.drew 156 184 ty (.pointer none) underlying156 (by intro w;simp[zeroValue,typeInfo,hi,W]) rfl rfl g m 1 G ag ?_ ?_
  .intro j Z;obtain⟨⟨v,h⟩,_⟩:=y.cell (m+j) ag;have h':w.drew.cell? (ay g (m+j))=some v:=h;rw[h'];rfl
  intro j Z;exact(y.cell (m+j) ag).2
 have a6:m<=c:=ag;have a1:(0:Int)<=(m:Int)+1:=ag;have HB:=bj y;have HX:=bj u;have Y:=bj hl;have HM:=bj J;clear y u hl J;delta dD;go_in;go_wp2_with fail
 go_region_law (refine ld rfl (.tmp 22) (.tmp 25) 156 rfl 184 i0 underlying156 hi (some (ay g 0)) (if c=m+1 then some (ay g 0) else some (ay g (m+1))) m c (c-(m+1)) mB mB ag ?_)
 all_goals
  go_wp2_with fail
  all_goals
   go_ret;refine⟨rfl,nD hb ag (gp HM.out) (by rw[eY,Y.out];omega) (by obtain⟨cu,k1,k2⟩:=HB.out.set g m (.pointer none);exact⟨cu,k1,ag⟩) (λj x u=>?_),?_⟩
   .have Z:j<m:=by
     have:=(cf.1 u).1;rw[eY,Y.out]at this;omega
    have H:xs[j]? = some x:=by
     rw[List.getElem?_dropLast]at u;split at u
     .exact u
     cases u
    have:=HX.out j x H;have h2:(World.setCell w (ay g m) (.pointer none)).cell? (ay g j)=some x:=by
     rw[dH _ _ _ _ AA];exact this
    exact h2
   repeat (first|exact aw _ _|refine bo ?_|refine bu ?_ (af rfl) _)
def NU(w w2:aa)(tb kb ck m:Nat)(fs:List Value)(Tk:Nat->Value):Prop:=
 Full w2 tb 160 7 7 (eC Tk 1 (.slice (some ⟨kb,0,none⟩) m ck))/\w2.ownsRow 0 184 1 (.slice (some ⟨kb,0,none⟩) m ck) m fs/\dM (λk=>k=tb\/k=kb) w w2
theorem wa(tb kb ck m fb cb L nx rb nr k:Nat)(v:B.V)(fv:Value)(l:List Value)(hX:(∃xe xt,fv=Fv 120 #[P0 xe,P0 xt]/\k=120/\l=[vA v,P0 xe,P0 xt])\/∃op a b c fc eb:Nat,fv=.func (.func 149) #[ed op a b c fc tb eb] #[]/\k=149/\l=[ed op a b c fc tb eb,vA v])(W:List Value)(Tk:Nat->Value)(R:aa->Prop)(w:aa)(hT:Full w tb 160 7 7 Tk)(a1:Tk 1=dA kb (m+1) ck)(hm:m<=1000)(hK:w.ownsRow 0 184 1 (dA kb (m+1) ck) (m+1) (W++[P0 fb]))(hF:w.heap[fb]? = some (jo cb L nx rb nr fv))(H:∀w2,NU w w2 tb kb ck m W Tk->eL k l.toArray w2 λw'=>R w'): eL 107 #[P0 tb,vA v] w λw'=>R w':=by
 rcases hX with⟨xe,xt,rfl,rfl,rfl⟩|⟨op,a,b,c,fc,eb,rfl,rfl,rfl⟩
 all_goals
  have c1:=hT.cell 1 ag;rw[a1]at c1;have lt:=hT.lt;have aK:W.length=m:=by
   have:=(gZ hK).2.2.2.1;simp at this;omega
  have k0:=(gZ hK).2.2.2.2.2 m (P0 fb) (by rw[iy ag,aK];simp);have kt:=eU hK hT ek kb rfl;have lk:=(dP hK kb rfl).2.1;have HT:=bj hT;have HK:=bj hK;have HF:=bj hF;have HH:=bj H;clear hT hK hF H
  obtain⟨v1,v2⟩:=v;delta eL;go_in;go_wp2_with fail
  refine du (Ld tb kb ck m fb _ (by simp[go_sem,lt,c1]) (by simp[go_sem,lk,k0]) hm) λw1 a0=>?_;have aI:=a0.size;simp at aI;have b0:=da a0 (show(w.alloc (.cells #[aj (v1:Int),aj v2] 149)).heap[w.heap.size]? = _ from bl w _) im;have KG:=bj (ar (ak _ _ _) a0);have Y:=λk hk=>KG.out.block k hk im;have Z:=bj (HT.out.block (Y tb lt));have a4:=bj (dQ HK.out (λk h=>Y k (dP HK.out k h).2.1));have a6:=bj ((Y fb (ch HF.out)).trans HF.out)
  have a8:=Z.out.cell 1 ag;rw[a1]at a8
  have aO:tb<w1.heap.size:=ag;have aP:IntKind.i64.wrap (m:Int)=(m:Int):=jG _ ⟨ag,ag⟩;clear a0 Y c1 k0 lk;go_wp2_with fail
  go_cut [] from 7 to 25 (λwx=>∃w2:aa,wx=w2.setCell (ay tb 1) (dA kb m ck)/\Hid (w1.grownBy w2 (some kb))/\Hid (w2.ownsRow 0 184 1 (dA kb m ck) m W))
  case first=>
   go_region_with (go_at_call 165;refine du (Me kb ck m 0 (W++[P0 fb]) w1.drew (dQ a4.out (λ_ _=>rfl)) hm) ?_;rintro w2 ⟨a3,u⟩;have i:Hid (w1.grownBy w2 (some kb)):=⟨u.os,u.tape,u.output,u.size,u.block⟩;have J:=bj ((List.dropLast_concat (l₁:=W) (b:=P0 fb))▸a3);have aC:=bj (Z.out.kept i.out (λe=>kt e.symm));obtain⟨d1,e1⟩:=aC.out.cells 1 ag;have aQ:=aC.out.lt;clear u a3)
   all_goals
    go_wp2_with fail
    go_meet
    case rel=>exact⟨w2,rfl,i,J⟩
  case rest=>
   obtain⟨w2,rfl,i,J⟩:=hcut;have aJ:Hid (dM (λk=>k=tb\/k=kb) w (w2.setCell (ay tb 1) (dA kb m ck))):=
    bp ((ep KG.out).then i.out (af (ah rfl))) (af (af rfl)) _
   generalize y:w2.setCell (ay tb 1) (dA kb m ck)=G at *;have a7:∀k,k≠tb->k≠kb->k<w1.heap.size->G.heap[k]? = w1.heap[k]?:=by
    intro k h1 h2 h3;rw[<-y,ab _ _ _ _ h1];exact i.out.block k h3 (by intro e;injection e with e;exact h2 e)
   have aA:Hid (Full G tb 160 7 7 (eC Tk 1 (dA kb m ck))):=by
    show Full _ _ _ _ _ _;rw[<-y];exact(Z.out.kept i.out (λe=>kt e.symm)).eC 1 _
   have a9:Hid (G.ownsRow 0 184 1 (dA kb m ck) m W):=by
    show World.ownsRow _ _ _ _ _ _ _;rw[<-y];exact dQ J.out (λk h=>by
     have:k=kb:=by injection h with h;exact h.symm
     subst this;exact ab _ _ _ _ kt)
   have a2:∀{k:Nat} {aB:Array Value} {T:TypeId},w1.heap[k]? = some (.cells aB T (0,0))->T≠184->T≠160->G.heap[k]? = w1.heap[k]?:=by
    intro k aB T hk h1 h2;refine a7 k ?_ ?_ (ch hk)
    .rintro rfl;obtain⟨aD,o,_⟩:=Z.out;rw[hk]at o;injection o with o;injection o with _ o _;exact h2 o
    rintro rfl;obtain⟨_,_,aD,o⟩:=dP a4.out k rfl;rw[hk]at o;injection o with o;injection o with _ o _;exact h1 o
   have f3:=(a2 a6.out ek ek).trans a6.out;obtain⟨_,_,_,aM,_⟩:=ji f3;have b3:=(a2 b0 ek ek).trans b0;have q0:G.cell? (ay w.heap.size 0)=some (aj (v1:Int)):=fy b3
   have q1:G.cell? (ay w.heap.size 1)=some (aj v2):=fy b3;have HP:Hid (∀w4,G.grownBy w4 none->NU w w4 tb kb ck m W Tk):=λw4 hg=>⟨aA.out.block (hg.block tb aA.out.lt im),dQ a9.out (λk h=>hg.block k (dP a9.out k h).2.1 im),aJ.out.iW hg⟩;clear y a7 a2 f3 b3 i J b0 a8;go_wp2_with fail
   go_region_with ((first|go_at_call 120|go_at_call 149);refine du (HH.out G.drew (HP.out _ (bo (aw _ _)))) λw4 a5=>?_;have aF:=bj a5;clear a5)
   all_goals
    go_wp2_with fail
    go_end0;exact⟨rfl,aF.out⟩
