import Derived.Test.YtnjiinbhbjpfkaaGreatDoorKC
import Derived.Test.YtnjiinbhbjpfkaaGreatDoorKB
set_option maxRecDepth 100000
set_option maxHeartbeats 0
set_option linter.all false
namespace Go.Proofs.YtnjiinbhbjpfkaaGreatDoor
open Go.RowKit Go.Proofs.Tryz
section
theorem IQ(tb sb cap m fb:Nat)(w:World)(c1:w.cell? ⟨tb,1,none⟩=some (.slice (some ⟨sb,0,none⟩) (m+1) cap))(o:w.cell? ⟨sb,m,none⟩=some (P0 fb))(i:m<=1000): Calls prog 164 #[P0 tb] w λe w'=>e=.returned (P0 fb)/\w.grownBy w' none:=by
 go_in;go_wp2_with fail
 go_quiet (fail)
 go_wp2_with fail
 go_ret;exact⟨rfl,db (ax _ _) _⟩
theorem JE(g c m o:Nat)(xs:List Value)(w:World)(i:w.ownsRow o 184 1 (.slice (some ⟨g,0,none⟩) (m+1) c) (m+1) xs)(a4:m<=1000): Calls prog 165 #[.slice (some ⟨g,0,none⟩) (m+1) c,.int .i64 (m:Int),.int .i64 ((m:Int)+1)] w λe w'=>e=.returned (.slice (some ⟨g,0,none⟩) m c)/\w'.ownsRow o 184 1 (.slice (some ⟨g,0,none⟩) m c) m xs.dropLast/\w.grownBy w' (some g):=by
 obtain⟨hb,hc,J,hl,y,u⟩:=iG i;clear i;obtain⟨i0,hi,W,a2,a5⟩:=info_parts Tryz.E8
 have cl:∀(ty:TypeId) (G:Nat),(Builtin.clear_ #[156] ty #[.slice (some ⟨g,m,none⟩) 1 G]).run prog w.drew=.ok (.tuple #[]) (w.drew.setCell ⟨g,m,none⟩ (.pointer none)):=by
  intro ty G;refine Go.Lib.run_clear_slice (P:=prog) w.drew 156 184 ty (.pointer none) underlying156 (by intro w;simp[zeroValue,typeInfo,hi,W]) rfl rfl g m 1 G (by omega) ?_ ?_
  .intro j Z;obtain⟨⟨v,h⟩,_⟩:=y.cell (m+j) (by omega);have h':w.drew.cell? ⟨g,m+j,none⟩=some v:=h;rw[h'];rfl
  intro j Z;exact(y.cell (m+j) (by omega)).2
 have a6:m<=c:=by omega
 have a1:(0:Int)<=(m:Int)+1:=by omega
 have HB:=az y;have HX:=az u;have Y:=az hl;have HM:=az J;clear y u hl J;go_in;go_wp2_with fail
 go_region_law (refine l9 rfl (.tmp 22) (.tmp 25) 156 rfl 184 i0 underlying156 hi (some ⟨g,0,none⟩) (if c=m+1 then some ⟨g,0,none⟩ else some ⟨g,m+1,none⟩) m c (c-(m+1)) (by first|rfl|simp[Act.eval,Act.put]) (by first|rfl|simp[Act.eval,Act.put]) (by omega) ?_)
 all_goals
  go_wp2_with fail
  all_goals
   go_ret;refine⟨rfl,qf hb (by omega) (by have:=HM.out;omega) (by rw[ef,Y.out];omega) (by obtain⟨cu,k1,k2⟩:=HB.out.set g m (.pointer none);exact⟨cu,k1,by omega⟩) (λj x u=>?_),?_⟩
   .have Z:j<m:=by
     have:=(bu.1 u).1;rw[ef,Y.out]at this;omega
    have H:xs[j]? = some x:=by
     rw[List.getElem?_dropLast]at u;split at u
     .exact u
     cases u
    have:=HX.out j x H;have h2:(World.setCell w ⟨g,m,none⟩ (.pointer none)).cell? ⟨g,j,none⟩=some x:=by
     rw[dF _ _ _ _ (by intro e;injection e with _ e;omega)];exact this
    exact h2
   repeat (first|exact ax _ _|refine bq ?_|refine bp ?_ (ag rfl) _)
def LG(w w2:World)(tb kb ck m:Nat)(fs:List Value)(Tk:Nat->Value):Prop:=
 Full w2 tb 160 7 7 (ep Tk 1 (.slice (some ⟨kb,0,none⟩) m ck))/\w2.ownsRow 0 184 1 (.slice (some ⟨kb,0,none⟩) m ck) m fs/\dy (λk=>k=tb\/k=kb) w w2
theorem uD(tb kb ck m fb cb L nx rb nr k:Nat)(v:B.V)(fv:Value)(l:List Value)(hX:(∃xe xt,fv=Fv 120 #[P0 xe,P0 xt]/\k=120/\l=[vA v,P0 xe,P0 xt])\/∃op a b c fc eb:Nat,fv=.func (.func 149) #[dZ op a b c fc tb eb] #[]/\k=149/\l=[dZ op a b c fc tb eb,vA v])(W:List Value)(Tk:Nat->Value)(R:World->Prop)(w:World)(hT:Full w tb 160 7 7 Tk)(a1:Tk 1=.slice (some ⟨kb,0,none⟩) (m+1) ck)(hm:m<=1000)(hK:w.ownsRow 0 184 1 (.slice (some ⟨kb,0,none⟩) (m+1) ck) (m+1) (W++[P0 fb]))(hF:w.heap[fb]? = some (ij cb L nx rb nr fv))(H:∀w2,LG w w2 tb kb ck m W Tk->Calls prog k l.toArray w2 λe w'=>e=.returned (.tuple #[])/\R w'): Calls prog 107 #[P0 tb,vA v] w λe w'=>e=.returned (.tuple #[])/\R w':=by
 rcases hX with⟨xe,xt,rfl,rfl,rfl⟩|⟨op,a,b,c,fc,eb,rfl,rfl,rfl⟩
 all_goals
  have c1:=hT.cell 1 (by omega);rw[a1]at c1;have lt:=hT.lt;have aK:W.length=m:=by
   have:=(iG hK).2.2.2.1;simp at this;omega
  have k0:=(iG hK).2.2.2.2.2 m (P0 fb) (by rw[dX (by omega),aK];simp);have kt:=eL hK hT (by decide) kb rfl;have lk:=(dA hK kb rfl).2.1;have HT:=az hT;have HK:=az hK;have HF:=az hF;have HH:=az H;clear hT hK hF H
  obtain⟨v1,v2⟩:=v;go_in;go_wp2_with fail
  refine(IQ tb kb ck m fb _ (by simp[go_sem,lt,c1]) (by simp[go_sem,lk,k0]) hm).mono ?_;rintro e w1 ⟨rfl,a0⟩;have aI:=a0.size;simp at aI;have b0:=cm a0 (show(w.alloc (.cells #[.int .i64 (v1:Int),.int .i64 v2] 149)).heap[w.heap.size]? = _ from bf w _) (by intro e;cases e);have KG:=az (an (ah _ _ _) a0);have Y:=λk hk=>KG.out.block k hk (by intro e;cases e);have Z:=az (HT.out.block (Y tb lt));have a4:=az (dD HK.out (λk h=>Y k (dA HK.out k h).2.1));have a6:=az ((Y fb (bz HF.out)).trans HF.out)
  have a8:=Z.out.cell 1 (by omega);rw[a1]at a8
  have aO:tb<w1.heap.size:=by omega
  have aP:IntKind.i64.wrap (m:Int)=(m:Int):=nS _ ⟨by omega,by omega⟩;clear a0 Y c1 k0 lk;go_wp2_with fail
  go_cut [] from 7 to 25 (λwx=>∃w2:World,wx=w2.setCell ⟨tb,1,none⟩ (.slice (some ⟨kb,0,none⟩) m ck)/\Hid (w1.grownBy w2 (some kb))/\Hid (w2.ownsRow 0 184 1 (.slice (some ⟨kb,0,none⟩) m ck) m W))
  case first=>
   go_region_with (go_at_call 165;refine(JE kb ck m 0 (W++[P0 fb]) w1.drew (dD a4.out (λ_ _=>rfl)) hm).mono ?_;rintro e w2 ⟨rfl,a3,u⟩;have i:Hid (w1.grownBy w2 (some kb)):=⟨u.os,u.tape,u.output,u.size,u.block⟩;have J:=az ((List.dropLast_concat (l₁:=W) (b:=P0 fb))▸a3);have aC:=az (Z.out.kept i.out (λe=>kt e.symm));obtain⟨d1,e1⟩:=aC.out.cells 1 (by omega);have aQ:=aC.out.lt;clear u a3)
   all_goals
    go_wp2_with fail
    go_meet
    case rel=>exact⟨w2,rfl,i,J⟩
  case rest=>
   obtain⟨w2,rfl,i,J⟩:=hcut;have aJ:Hid (dy (λk=>k=tb\/k=kb) w (w2.setCell ⟨tb,1,none⟩ (.slice (some ⟨kb,0,none⟩) m ck))):=
    bm ((dU KG.out).then i.out (ag (ab rfl))) (ag (ag rfl)) _
   generalize y:w2.setCell ⟨tb,1,none⟩ (.slice (some ⟨kb,0,none⟩) m ck)=G at *
   have a7:∀k,k≠tb->k≠kb->k<w1.heap.size->G.heap[k]? = w1.heap[k]?:=by
    intro k h1 h2 h3;rw[<-y,af _ _ _ _ h1];exact i.out.block k h3 (by intro e;injection e with e;exact h2 e)
   have aA:Hid (Full G tb 160 7 7 (ep Tk 1 (.slice (some ⟨kb,0,none⟩) m ck))):=by
    show Full _ _ _ _ _ _;rw[<-y];exact(Z.out.kept i.out (λe=>kt e.symm)).ep 1 _
   have a9:Hid (G.ownsRow 0 184 1 (.slice (some ⟨kb,0,none⟩) m ck) m W):=by
    show World.ownsRow _ _ _ _ _ _ _;rw[<-y];exact dD J.out (λk h=>by
     have:k=kb:=by injection h with h;exact h.symm
     subst this;exact af _ _ _ _ kt)
   have a2:∀{k:Nat} {aB:Array Value} {T:TypeId},w1.heap[k]? = some (.cells aB T (0,0))->T≠184->T≠160->G.heap[k]? = w1.heap[k]?:=by
    intro k aB T hk h1 h2;refine a7 k ?_ ?_ (bz hk)
    .rintro rfl;obtain⟨aD,o,_⟩:=Z.out;rw[hk]at o;injection o with o;injection o with _ o _;exact h2 o
    rintro rfl;obtain⟨_,_,aD,o⟩:=dA a4.out k rfl;rw[hk]at o;injection o with o;injection o with _ o _;exact h1 o
   have f3:=(a2 a6.out (by decide) (by decide)).trans a6.out;obtain⟨_,_,_,aM,_⟩:=ib f3;have b3:=(a2 b0 (by decide) (by decide)).trans b0;have q0:G.cell? ⟨w.heap.size,0,none⟩=some (.int .i64 (v1:Int)):=by simp[World.cell?,b3]
   have q1:G.cell? ⟨w.heap.size,1,none⟩=some (.int .i64 v2):=by simp[World.cell?,b3]
   have HP:Hid (∀w4,G.grownBy w4 none->LG w w4 tb kb ck m W Tk):=λw4 hg=>⟨aA.out.block (hg.block tb aA.out.lt (by intro e;cases e)),dD a9.out (λk h=>hg.block k (dA a9.out k h).2.1 (by intro e;cases e)),aJ.out.gR hg⟩;clear y a7 a2 f3 b3 i J b0 a8;go_wp2_with fail
   go_region_with ((first|go_at_call 120|go_at_call 149);refine(HH.out G.drew (HP.out _ (bq (ax _ _)))).mono ?_;rintro e w4 ⟨rfl,a5⟩;have aF:=az a5;clear a5)
   all_goals
    go_wp2_with fail
    go_end0;exact⟨rfl,aF.out⟩
