import Derived.Test.YtnjiinbhbjpfkaaGreatDoorKC
import Derived.Test.YtnjiinbhbjpfkaaGreatDoorKE
set_option maxRecDepth 100000
set_option maxHeartbeats 0
set_option linter.all false
namespace Go.Proofs.YtnjiinbhbjpfkaaGreatDoor
open Go.RowKit Go.Proofs.Tryz
section
theorem GX(eb g c n:Nat)(ad:Option Addr)(H:Nat->Int)(xs:List Nat)(w:World)(he:w.cell? ⟨eb,32,none⟩=some (.slice ad n c))(le:eb<w.heap.size)(hn:n=xs.length)(a9:n<=1000000000)(Z:∀j x,xs[j]? = some x->ad=some ⟨g,0,none⟩/\w.cell? ⟨g,j,none⟩=some (P0 x))(lg:xs≠[]->g<w.heap.size)(J:∀x,x∈xs->w.cell? ⟨x,0,none⟩=some (.int .i64 (H x))/\x<w.heap.size): Calls prog 43 #[P0 eb] w λe w'=>e=.returned (.slice (some ⟨w.heap.size,0,none⟩) n n)/\w'.ownsRow w.heap.size 3 1 (.slice (some ⟨w.heap.size,0,none⟩) n n) n (xs.map (λx=>.int .i64 (H x)))/\w.grownBy w' none:=by
 obtain⟨i0,hi,a2,a0,W⟩:=info_parts Tryz.F6;have HC:=az Z;have HN:=az hn;have HG:=az lg;have HM:=az J;clear Z hn lg J;go_in;go_wp2_with (at_make;go_loud (refine wpList_make_full _ rfl _ _ 54 rfl w.heap.size 3 i0 _ 1 underlying54 hi a2 a0 _ _ _ _ n rfl rfl rfl rfl (by rw[W];omega) (by unfold maxLen;omega) (bj _) ?_))
 intro w3 G o;have Y:jB w3 w.heap.size 3 n:=by
  have:=jB.owned G;rwa [Nat.mul_one]at this
 have aA:=(bh o (a:=⟨eb,32,none⟩) le).1.trans he;have a4:=az Y;have a5:=az o;clear G o Y he hi a2 a0 W i0;go_wp2_with fail
 go_loopw [19] (λi wr=>∃j:Nat,i=.int .i64 j/\j<=n/\Hid (jB wr w.heap.size 3 n)/\Hid (w.grownBy wr none)/\Hid (∀p x,p<j->xs[p]? = some x->wr.cell? ⟨w.heap.size,p,none⟩=some (.int .i64 (H x)))) (λi _=>n-(intOf i).toNat)
 case atStart=>exact⟨0,rfl,by omega,a4,a5,(λp x hp=>ch hp (by omega))⟩
 case round=>
  obtain⟨j,rfl,hj,rB,rG,rC⟩:=hrel;by_cases a6:j<n
  .obtain⟨x,hx⟩:∃x,xs[j]? = some x:=⟨_,bn (by have:=HN.out;omega)⟩;obtain⟨rfl,a1⟩:=HC.out j x hx;have u:=ed hx;have cj:wr.cell? ⟨g,j,none⟩=some (P0 x):=(bh rG.out (a:=⟨g,j,none⟩) (HG.out (by intro e;rw[e]at u;cases u))).1.trans a1;obtain⟨m1,m2⟩:=HM.out x u;have cx:=(bh rG.out (a:=⟨x,0,none⟩) m2).1.trans m1;obtain⟨⟨y,cy⟩,zy⟩:=rB.out.cell j a6;have a8:(j:Int)<(n:Int):=by omega
   have KC:Hid (∀p z,p<j+1->xs[p]? = some z->(wr.setCell ⟨w.heap.size,j,none⟩ (.int .i64 (H x))).cell? ⟨w.heap.size,p,none⟩=some (.int .i64 (H z))):=λp z hp hz=>by
    by_cases a3:p=j
    .subst a3;rw[(az hx).out]at hz;injection hz with hz;subst hz;exact World.cell?_setCell_same _ _ _ cy
    rw[dF _ _ _ _ (by intro e;injection e with _ e;omega)];exact rC.out p z (by omega) hz
   clear a1 u m1 m2 hx;go_wp2_with fail
   go_roundw
   case rel=>exact⟨j+1,by go_num,by omega,rB.out.set _ _ _,bp rG.out (ab (by simp)) _,KC⟩
   case measure=>simp[intOf];omega
  have a7:¬(j:Int)<(n:Int):=by omega
  obtain rfl:j=n:=by omega
  go_wp2_with fail
  go_ret;refine⟨rfl,qf (bj _) (bj _) (by unfold maxLen;omega) (by rw[dS,<-HN.out]) rB.out (λp y hy=>?_),rG.out⟩;rw[eo]at hy;obtain⟨z,hz,rfl⟩:=Option.map_eq_some_iff.1 hy;exact rC.out p z (by have:=(bu.1 hz).1;have:=HN.out;omega) hz
