import Derived.Test.YtnjiinbhbjpfkaaGreatDoorAB
set_option maxRecDepth 100000
set_option maxHeartbeats 0
set_option linter.all false
namespace Go.Proofs.YtnjiinbhbjpfkaaGreatDoor
open Go.RowKit Go.Proofs.Tryz
section
theorem Mi(tb sb cap m fb:Nat)(w:aa)(c1:w.cell? (az tb 1)=some (dD sb (m+1) cap))(o:w.cell? (az sb m)=some (P0 fb))(i:m<=1000):dC 164 #[P0 tb] w (P0 fb) λw'=>w.grownBy w' none:=by
 delta dC;go_in;go_wp2
 go_quiet (fail)
 go_wp2
 go_ret;simp[df,aw]
theorem Nb(g c m o:Nat)(xs:List Value)(w:aa)(i:w.ownsRow o 184 1 (dD g (m+1) c) (m+1) xs)(a4:m<=1000):dC 165 #[dD g (m+1) c,ah (m:Int),ah<|(m:Int)+1] w (dD g m c) λw'=>w'.ownsRow o 184 1 (dD g m c) m xs.dropLast/\w.grownBy w' (some g):=by
 let⟨hb,hc,J,hl,y,u⟩:=ik i;clear i;let⟨i0,hi,W,a2,a5⟩:=info_parts Tryz.IG
 have cl:∀(ty:TypeId) (G:Nat),(Builtin.clear_ #[156] ty #[.slice (some<|az g m) 1 G]).run prog w.drew=.ok (.tuple #[]) (iA w.drew g m<|.pointer none):=by
  intro ty G;refine Go.Lib.run_clear_slice (P:=prog) w.drew 156 184 ty (.pointer none) underlying156 (by intro w;simp[zeroValue,typeInfo,hi,W]) rfl rfl g m 1 G af ?_ ?_
  .intro j Z;let⟨⟨v,h⟩,_⟩:=y.cell (m+j) af;have h':w.drew.cell? (az g<|m+j)=some v:=h;rw[h'];rfl
  intro j Z;exact(y.cell (m+j) af).2
 have a6:m<=c:=af
 have a1:(0:Int)<=(m:Int)+1:=af
 have HB:=bj y;have HX:=bj u;have Y:=bj hl;have HM:=bj J;clear y u hl J;delta dC;go_in;go_wp2_with fail
 go_region_law (refine lQ rfl (.tmp 22) (.tmp 25) 156 rfl 184 i0 underlying156 hi (some<|az g 0) (if c=m+1 then some (az g 0) else some (az g<|m+1)) m c (c-(m+1)) mS mS af ?_)
 all_goals
  go_wp2_with fail
  all_goals
   go_ret;refine⟨rfl,nT hb af (gD HM.out) (by rw[eY,Y.out];omega) (by let⟨cu,k1,k2⟩:=HB.set g m<|.pointer none;exact⟨cu,k1,af⟩)<|λj x u=>?_,?_⟩
   .have Z:j<m:=by
     have:=(cf.1 u).1;rw[eY,Y.out]at this;omega
    have H:xs[j]?=some x:=by
     rw[List.getElem?_dropLast]at u;split at u
     .exact u
     cases u
    have:=HX j x H;have h2:(World.setCell w (az g m)<|.pointer none).cell? (az g j)=some x:=by
     rw[dK _ _ _ _ Cm];exact this
    exact h2
   repeat (first|exact aw _ _|refine bo ?_|refine bu ?_ (ag rfl) _)
def O2(w w2:aa)(tb kb ck m:Nat)(fs:List Value)(Tk:Nat->Value):Prop:=
 Full w2 tb 160 7 7 (eE Tk 1<|.slice (some ⟨kb,0,none⟩) m ck)/\w2.ownsRow 0 184 1 (.slice (some ⟨kb,0,none⟩) m ck) m fs/\dN (λk=>k=tb\/k=kb) w w2
theorem wW(tb kb ck m fb cb L nx rb nr k:Nat)(v:B.V)(fv:Value)(l:List Value)(hX:(∃xe xt,fv=Fv 120 #[P0 xe,P0 xt]/\k=120/\l=[vA v,P0 xe,P0 xt])\/∃op a b c fc eb:Nat,fv=.func (.func 149) #[ee op a b c fc tb eb] #[]/\k=149/\l=[ee op a b c fc tb eb,vA v])(W:List Value)(Tk:Nat->Value)(R:aa->Prop)(w:aa)(hT:Full w tb 160 7 7 Tk)(a1:Tk 1=dD kb (m+1) ck)(hm:m<=1000)(hK:w.ownsRow 0 184 1 (dD kb (m+1) ck) (m+1) (W++[P0 fb]))(hF:w.heap[fb]?=some (jG cb L nx rb nr fv))(H:∀w2,O2 w w2 tb kb ck m W Tk->eN k l.toArray w2 λw'=>R w'):eN 107 #[P0 tb,vA v] w λw'=>R w':=by
 rcases hX with⟨xe,xt,rfl,rfl,rfl⟩|⟨op,a,b,c,fc,eb,rfl,rfl,rfl⟩
 all_goals
  have c1:=hT.cell 1 af;rw[a1]at c1;have lt:=hT.lt;have aK:W.length=m:=by
   have:=(ik hK).2.2.2.1;simp at this;omega
  have k0:=(ik hK).2.2.2.2.2 m (P0 fb) (by rw[iF af,aK];simp);have kt:=eU hK hT eo kb rfl;have lk:=(dR hK kb rfl).2.1;have HT:=bj hT;have HK:=bj hK;have HF:=bj hF;have HH:=bj H;clear hT hK hF H
  obtain⟨v1,v2⟩:=v;delta eN;go_in;go_wp2_with fail
  refine dq (Mi tb kb ck m fb _ (by simp[go_sem,lt,c1]) (by simp[go_sem,lk,k0]) hm) λw1 a0=>?_;have aI:=a0.size;simp at aI;have b0:=da a0 (show(w.alloc<|.cells #[ah (v1:Int),ah v2] 149).heap[w.heap.size]?=_ from bl w _) je;have KG:=bj<|ar (aj _ _ _) a0;have Y:=λk hk=>KG.out.block k hk je;have Z:=bj<|HT.out.block<|Y tb lt;have a4:=bj<|dS HK.out<|λk h=>Y k (dR HK.out k h).2.1;have a6:=bj<|(Y fb<|ch HF.out).trans HF.out
  have a8:=Z.out.cell 1 af;rw[a1]at a8
  have aO:tb<w1.heap.size:=af
  have aP:IntKind.i64.wrap (m:Int)=(m:Int):=jf _ ⟨af,af⟩;clear a0 Y c1 k0 lk;go_wp2_with fail
  go_cut[] from 7 to 25 (λwx=>∃w2:aa,wx=w2.setCell (az tb 1) (dD kb m ck)/\Hid (w1.grownBy w2<|some kb)/\Hid (w2.ownsRow 0 184 1 (dD kb m ck) m W))
  case first=>
   go_region_with (go_at_call 165;refine dq (Nb kb ck m 0 (W++[P0 fb]) w1.drew (dS a4.out<|λ_ _=>rfl) hm) ?_;rintro w2 ⟨a3,u⟩;have i:Hid (w1.grownBy w2<|some kb):=⟨u.os,u.tape,u.output,u.size,u.block⟩;have J:=bj<|(List.dropLast_concat (l₁:=W) (b:=P0 fb))▸a3;have aC:=bj<|Z.out.kept i.out<|λe=>kt e.symm;obtain⟨d1,e1⟩:=aC.out.cells 1 af;have aQ:=aC.out.lt;clear u a3)
   all_goals
    go_wp2_with fail
    go_meet
    case rel=>exact⟨w2,rfl,i,J⟩
  case rest=>
   obtain⟨w2,rfl,i,J⟩:=hcut;have aJ:Hid (dN (λk=>k=tb\/k=kb) w<|w2.setCell (az tb 1)<|dD kb m ck):=
    bq ((eA KG.out).then i.out (ag<|ak rfl)) (ag<|ag rfl) _
   generalize y:w2.setCell (az tb 1) (dD kb m ck)=G at*
   have a7:∀k,k≠tb->k≠kb->k<w1.heap.size->G.heap[k]?=w1.heap[k]?:=by
    intro k h1 h2 h3;rw[<-y,ab _ _ _ _ h1];exact i.out.block k h3 (by intro e;injection e with e;exact h2 e)
   have aA:Hid (Full G tb 160 7 7<|eE Tk 1<|dD kb m ck):=by
    show Full _ _ _ _ _ _;rw[<-y];exact(Z.out.kept i.out<|λe=>kt e.symm).eE 1 _
   have a9:Hid (G.ownsRow 0 184 1 (dD kb m ck) m W):=by
    show World.ownsRow _ _ _ _ _ _ _;rw[<-y];exact dS J.out (λk h=>by
     have:k=kb:=by injection h with h;exact h.symm
     subst this;exact ab _ _ _ _ kt)
   have a2:∀{k:Nat} {aB:Array Value} {T:TypeId},w1.heap[k]?=some (.cells aB T (0,0))->T≠184->T≠160->G.heap[k]?=w1.heap[k]?:=by
    intro k aB T hk h1 h2;refine a7 k ?_ ?_<|ch hk
    .rintro rfl;obtain⟨aD,o,_⟩:=Z.out;rw[hk]at o;injection o with o;injection o with _ o _;exact h2 o
    rintro rfl;obtain⟨_,_,aD,o⟩:=dR a4.out k rfl;rw[hk]at o;injection o with o;injection o with _ o _;exact h1 o
   have f3:=(a2 a6.out eo eo).trans a6.out;obtain⟨_,_,_,aM,_⟩:=jy f3;have b3:=(a2 b0 eo eo).trans b0;have q0:G.cell? (az w.heap.size 0)=some (ah (v1:Int)):=fj b3
   have q1:G.cell? (az w.heap.size 1)=some (ah v2):=fj b3
   have HP:Hid (∀w4,G.grownBy w4 none->O2 w w4 tb kb ck m W Tk):=λw4 hg=>⟨aA.out.block<|hg.block tb aA.out.lt je,dS a9.out<|λk h=>hg.block k (dR a9.out k h).2.1 je,aJ.out.jj hg⟩;clear y a7 a2 f3 b3 i J b0 a8;go_wp2_with fail
   go_region_with ((first|go_at_call 120|go_at_call 149);refine dq (HH.out G.drew<|HP.out _<|bo<|aw _ _) λw4 a5=>?_;have aF:=bj a5;clear a5)
   all_goals
    go_wp2_with fail
    go_end0;exact⟨rfl,aF.out⟩
