import Derived.Test.YtnjiinbhbjpfkaaGreatDoorTR
import Derived.Test.YtnjiinbhbjpfkaaGreatDoorTT
import Derived.Test.YtnjiinbhbjpfkaaGreatDoorTK
set_option maxRecDepth 100000
set_option maxHeartbeats 0
set_option linter.all false
namespace Go.Proofs.YtnjiinbhbjpfkaaGreatDoor
open Go.RowKit Go.Proofs.Tryz
section
def kG(ok : Bool) (m mt : Nat) : Int := if ok = false then 4 else if m = mt then 7 else 0
theorem Je(op a b c fb tb eb sb m ck ff mt num:Nat)(x y cg:B.V)(ok:Bool)(ao:Option Addr)(R:aa→Prop)(R1:aa→Prop)(w:aa)(hb:∀w1,w.grownBy w1 none→Calls prog 86 #[ed op a b c fb tb eb] w1 fun e w'=>e=.returned (vA x)∧w1.grownBy w' none)(hf:∀w1,w.grownBy w1 none→Calls prog 162 #[P0 sb,vA x] w1 fun e w'=>e=.returned (.tuple #[aj ff,vA cg,.bool ok])∧w1.grownBy w' none)(hc:∀w1,w.grownBy w1 none→Calls prog 94 #[ed op a b c fb tb eb] w1 fun e w'=>e=.returned (vA y)∧w1.grownBy w' none)(he:ok=true→m≠mt→∀w1,w.grownBy w1 none→w.heap.size<w1.heap.size→Calls prog 60 #[P0 eb,aj ff,vA y,vA cg] w1 fun e w'=>e=.returned (aj num)∧R1 w'∧∀k,w.heap.size≤k→k<w1.heap.size→w'.heap[k]? = w1.heap[k]?)(hst:∀w1 w2,R1 w1→w1.grownBy w2 none→Calls prog 149 #[ed op a b c fb tb eb,vA (0,(num:Int))] w2 fun e w'=>e=.returned (.tuple #[])∧R w'∧w'.heap[w.heap.size]? = w2.heap[w.heap.size]?)(h0:∀w1,w.grownBy w1 none→(ok=false∨m=mt)→R w1)(c27:w.cell? (ay eb 27)=some (P0 sb))(c29:w.cell? (ay eb 29)=some (.slice ao m ck))(c3:w.cell? (ay eb 3)=some (aj mt)): Calls prog 108 #[ed op a b c fb tb eb] w fun e w'=>e=.returned (aj (kG ok m mt))∧R w':=by
 have HB:=bj hb
 have HF:=bj hf
 have HC:=bj hc
 have HE:=bj he
 have H0:=bj h0
 have le:=gM c27
 have HST:=bj hst
 clear hb hf hc he h0 hst
 go_in
 go_wp2_with fail
 have HX1:=bj (iN w op a b c fb tb eb)
 have KG1:=bj (ak w (.cells #[dy op,dy a,dy b,dy c,P0 fb,P0 tb,P0 eb] 186) none)
 generalize hW:w.alloc (.cells #[dy op,dy a,dy b,dy c,P0 fb,P0 tb,P0 eb] 186)=w1 at *
 have HZ1:Hid (w1.heap.size=w.heap.size+1):=by show _=_;rw[←hW];simp
 clear hW
 have HK:Hid (∀w',w.grownBy w' none→w'.heap[w.heap.size]? = some (ju op a b c fb tb eb)→(dS w' w.heap.size 0)=some (dy op)∧(dS w' w.heap.size 1)=some (dy a)∧(dS w' w.heap.size 2)=some (dy b)∧(dS w' w.heap.size 3)=some (dy c)∧(dS w' w.heap.size 4)=some (P0 fb)∧(dS w' w.heap.size 5)=some (P0 tb)∧(dS w' w.heap.size 6)=some (P0 eb)∧(dS w' eb 27)=some (P0 sb)):=fun w' hg hx=>by
  obtain⟨x0,x1,x2,x3,x4,x5,x6⟩:=eZ hx
  exact⟨x0,x1,x2,x3,x4,x5,x6,(bd hg (a:=ay eb 27) le).1.trans c27⟩
 have HKS:Hid (∀(w':aa) (B:Nat) (u v:Value),w.grownBy w' none→w'.heap[w.heap.size]? = some (ju op a b c fb tb eb)→w.heap.size<B→w.grownBy ((w'.setCell (ay B 0) u).setCell (ay B 1) v) none∧((w'.setCell (ay B 0) u).setCell (ay B 1) v).heap[w.heap.size]? = some (ju op a b c fb tb eb)):=fun w' B u v hg hx hB=>
  ⟨bu (bu hg (ah (jd hB)) _) (ah (jd hB)) _,((ab _ _ _ _ (oI hB)).trans (ab _ _ _ _ (oI hB))).trans hx⟩
 have HKT:Hid (∀(w':aa) (B:Nat) (u v:Value) (hg:w.grownBy w' none) (hx:w'.heap[w.heap.size]? = some (ju op a b c fb tb eb)) (hB:w.heap.size<B),_):=fun w' B u v hg hx hB=>HK _ (HKS w' B u v hg hx hB).1 (HKS w' B u v hg hx hB).2
 have HZ:Hid (∀(w':aa) (o:Obj) (k:Nat) (o':Obj),w'.heap[k]? = some o'→(w'.alloc o).heap[k]? = some o'):=fun w' o k o' hk=>by
  rw[av _ _ _ (ch hk)];exact hk
 go_region_held3 (fun w'=>dS w' w.heap.size 0=some (dy op)∧(dS w' w.heap.size 1)=some (dy a)∧(dS w' w.heap.size 2)=some (dy b)∧(dS w' w.heap.size 3)=some (dy c)∧(dS w' w.heap.size 4)=some (P0 fb)∧(dS w' w.heap.size 5)=some (P0 tb)∧(dS w' w.heap.size 6)=some (P0 eb)∧(dS w' eb 27)=some (P0 sb)) (first|exact HK _ (bo KG1) HX1|exact HK _ (ax (bo KG1) _) (HZ _ _ _ _ HX1)|exact HK _ KG2 HX2|exact HK _ (ax KG2 _) (HZ _ _ _ _ HX2)|exact HK _ KG3 HX3|exact HK _ (ax KG3 _) (HZ _ _ _ _ HX3)|exact HKT w3 _ _ _ KG3 HX3 HLB|exact HKT _ _ _ _ (ax KG3 _) (HZ _ _ _ _ HX3) (ch HX3)) (first|(go_at_call 86;refine du (HB w1.drew (bo KG1)) λw2 hg2=>?_;have KG2:Hid (w.grownBy w2 none):=ar (bo KG1) hg2;have HX2:=bj (dv hg2 (show w1.drew.heap[w.heap.size]? = _ from HX1));have HBX:Hid True:=trivial;clear hg2)|(go_at_call 86;refine du (HB (w1.drew.alloc (.cells #[aj 0,aj 0] 149)) (ax (bo KG1) _)) λw2 hg2=>?_;have KG2:Hid (w.grownBy w2 none):=ar (ax (bo KG1) _) hg2;have HX2:=bj (dv hg2 (HZ w1.drew _ _ _ HX1));have HBX:Hid (w2.heap[w1.heap.size]? = some (.cells #[aj 0,aj 0] 149 (0,0))):=dv hg2 (bl w1.drew _);clear hg2)|(go_at_call 162;refine du (HF w2 KG2) λw3 hg3=>?_;have KG3:Hid (w.grownBy w3 none):=ar KG2 hg3;have HX3:=bj (dv hg3 HX2);have hbx:=dv hg3 HBX;have HLB:Hid (w.heap.size<w1.heap.size):=(by show _<_;rw[HZ1.out];omega);have r0:dS w3 w1.heap.size 0=some (aj 0):=(by simp[World.cell?,hbx]);have r1:dS w3 w1.heap.size 1=some (aj 0):=(by simp[World.cell?,hbx]);have r2:w3.frozen? (ay w1.heap.size 0)=false:=(by simp[World.frozen?,hbx]);have r3:w3.frozen? (ay w1.heap.size 1)=false:=(by simp[World.frozen?,hbx]);have lB:=ch hbx;clear hbx;clear hg3)|(go_at_call 162;refine du (HF w2 KG2) λw3 hg3=>?_;have KG3:Hid (w.grownBy w3 none):=ar KG2 hg3;have HX3:=bj (dv hg3 HX2);clear hg3)|(go_at_call 162;refine du (HF (w2.alloc (.cells #[aj 0,aj 0] 149)) (ax KG2 _)) λw3 hg3=>?_;have KG3:Hid (w.grownBy w3 none):=ar (ax KG2 _) hg3;have HX3:=bj (dv hg3 (HZ w2 _ _ _ HX2));have hbx:w3.heap[w2.heap.size]? = some (.cells #[aj 0,aj 0] 149 (0,0)):=dv hg3 (bl w2 _);have HLB:Hid (w.heap.size<w2.heap.size):=ch HX2;have r0:dS w3 w2.heap.size 0=some (aj 0):=(by simp[World.cell?,hbx]);have r1:dS w3 w2.heap.size 1=some (aj 0):=(by simp[World.cell?,hbx]);have r2:w3.frozen? (ay w2.heap.size 0)=false:=(by simp[World.frozen?,hbx]);have r3:w3.frozen? (ay w2.heap.size 1)=false:=(by simp[World.frozen?,hbx]);have lB:=ch hbx;clear hbx;clear hg3))
 all_goals
  first
  |rename_i hh
   clear hh
   have KG4:Hid (w.grownBy (((w3.setCell (ay w2.heap.size 0) (aj cg.1)).setCell (ay w2.heap.size 1) (aj cg.2))) none):=(HKS w3 _ _ _ KG3 HX3 HLB).1
   have HX4:Hid ((((w3.setCell (ay w2.heap.size 0) (aj cg.1)).setCell (ay w2.heap.size 1) (aj cg.2))).heap[w.heap.size]? = some (ju op a b c fb tb eb)):=(HKS w3 _ _ _ KG3 HX3 HLB).2
   have u0:dS (((w3.setCell (ay w2.heap.size 0) (aj cg.1)).setCell (ay w2.heap.size 1) (aj cg.2))) w2.heap.size 0=some (aj cg.1):=by simp[go_sem,r0,r1,r2,r3,lB]
   have u1:dS (((w3.setCell (ay w2.heap.size 0) (aj cg.1)).setCell (ay w2.heap.size 1) (aj cg.2))) w2.heap.size 1=some (aj cg.2):=by simp[go_sem,r0,r1,r2,r3,lB]
   clear r0 r1 r2 r3 lB
   have lB:=gM u0
   have HBW:Hid (w.heap.size≤w2.heap.size):=jd HLB
   generalize ((w3.setCell (ay w2.heap.size 0) (aj cg.1)).setCell (ay w2.heap.size 1) (aj cg.2))=w4 at *
   generalize w2.heap.size=B at *
  |rename_i hh
   clear hh
   have KG4:Hid (w.grownBy (((w3.setCell (ay w1.heap.size 0) (aj cg.1)).setCell (ay w1.heap.size 1) (aj cg.2))) none):=(HKS w3 _ _ _ KG3 HX3 HLB).1
   have HX4:Hid ((((w3.setCell (ay w1.heap.size 0) (aj cg.1)).setCell (ay w1.heap.size 1) (aj cg.2))).heap[w.heap.size]? = some (ju op a b c fb tb eb)):=(HKS w3 _ _ _ KG3 HX3 HLB).2
   have u0:dS (((w3.setCell (ay w1.heap.size 0) (aj cg.1)).setCell (ay w1.heap.size 1) (aj cg.2))) w1.heap.size 0=some (aj cg.1):=by simp[go_sem,r0,r1,r2,r3,lB]
   have u1:dS (((w3.setCell (ay w1.heap.size 0) (aj cg.1)).setCell (ay w1.heap.size 1) (aj cg.2))) w1.heap.size 1=some (aj cg.2):=by simp[go_sem,r0,r1,r2,r3,lB]
   clear r0 r1 r2 r3 lB
   have lB:=gM u0
   have HBW:Hid (w.heap.size≤w1.heap.size):=jd HLB
   generalize ((w3.setCell (ay w1.heap.size 0) (aj cg.1)).setCell (ay w1.heap.size 1) (aj cg.2))=w4 at *
   generalize w1.heap.size=B at *
  |rename_i hh
   clear hh
   have KG4:Hid (w.grownBy ((w3.alloc (.cells #[aj cg.1,aj cg.2] 149))) none):=ax KG3 _
   have HX4:Hid (((w3.alloc (.cells #[aj cg.1,aj cg.2] 149))).heap[w.heap.size]? = some (ju op a b c fb tb eb)):=HZ _ _ _ _ HX3
   have u0:dS ((w3.alloc (.cells #[aj cg.1,aj cg.2] 149))) w3.heap.size 0=some (aj cg.1):=by simp[go_sem]
   have u1:dS ((w3.alloc (.cells #[aj cg.1,aj cg.2] 149))) w3.heap.size 1=some (aj cg.2):=by simp[go_sem]
   have lB:=gM u0
   have HBW:Hid (w.heap.size≤w3.heap.size):=KG3.size
   generalize (w3.alloc (.cells #[aj cg.1,aj cg.2] 149))=w4 at *
   generalize w3.heap.size=B at *
 all_goals
  obtain⟨x0,x1,x2,x3,x4,x5,x6⟩:=eZ HX4
  have lx:=ch HX4
  have d29:=(bd KG4 (a:=ay eb 29) le).1.trans c29
  have d3:=(bd KG4 (a:=ay eb 3) le).1.trans c3
  have le4:eb<w4.heap.size:=dm le KG4.size
  cases ok with
  |false=>
   go_wp2
   go_ret
   exact⟨rfl,H0 _ KG4 (af (by first|rfl|trivial))⟩
  |true=>
   by_cases hm:m=mt
   .have hmi:(m:Int)=mt:=ag
    have HM:=bj hm
    clear hm
    go_wp2
    go_quiet (fail)
    go_wp2
    go_ret
    exact⟨by have h:=HM.out;simp[kG,h],H0 _ (df KG4 _) (ah HM)⟩
   .have hmi:¬((m:Int)=mt):=ag
    have HM:=bj hm
    clear hm
    go_wp2
    go_quiet (fail)
    have KGQ:Hid (w.grownBy (w4.drewN nq) none):=df KG4 _
    have HXQ:Hid ((w4.drewN nq).heap[w.heap.size]? = some (ju op a b c fb tb eb)):=HX4
    have v0:dS (w4.drewN nq) B 0=some (aj cg.1):=u0
    have v1:dS (w4.drewN nq) B 1=some (aj cg.2):=u1
    have lBQ:B<(w4.drewN nq).heap.size:=lB
    clear u0 u1 lB x0 x1 x2 x3 x4 x5 x6 lx d29 d3 le4
    generalize w4.drewN nq=w9 at *
    obtain⟨x0,x1,x2,x3,x4,x5,x6⟩:=eZ HXQ
    have lx:=ch HXQ
    go_wp2_with fail
    have HS:Hid (∀w',w9.grownBy w' none→(dS w' w.heap.size 0)=some (dy op)∧(dS w' w.heap.size 1)=some (dy a)∧(dS w' w.heap.size 2)=some (dy b)∧(dS w' w.heap.size 3)=some (dy c)∧(dS w' w.heap.size 4)=some (P0 fb)∧(dS w' w.heap.size 5)=some (P0 tb)∧(dS w' w.heap.size 6)=some (P0 eb)∧(dS w' B 0)=some (aj cg.1)∧(dS w' B 1)=some (aj cg.2)):=fun w' hg=>by
     obtain⟨x0,x1,x2,x3,x4,x5,x6⟩:=eZ (dv hg HXQ)
     exact⟨x0,x1,x2,x3,x4,x5,x6,(bd hg (a:=ay B 0) lBQ).1.trans v0,(bd hg (a:=ay B 1) lBQ).1.trans v1⟩
    have HS6F:Hid (∀w5 w':aa,w9.grownBy w5 none→(∀k,w.heap.size≤k→k<w5.heap.size→w'.heap[k]? = w5.heap[k]?)→(dS w' w.heap.size 0)=some (dy op)∧(dS w' w.heap.size 1)=some (dy a)∧(dS w' w.heap.size 2)=some (dy b)∧(dS w' w.heap.size 3)=some (dy c)∧(dS w' w.heap.size 4)=some (P0 fb)∧(dS w' w.heap.size 5)=some (P0 tb)∧(dS w' w.heap.size 6)=some (P0 eb)∧(dS w' B 0)=some (aj cg.1)∧(dS w' B 1)=some (aj cg.2)):=fun w5 w' hg hk=>by
     obtain⟨y0,y1,y2,y3,y4,y5,y6,y7,y8⟩:=HS w5 hg
     have hz:=hg.size
     have e1:=hk w.heap.size (bq _) ag
     have e2:=hk B HBW ag
     exact⟨(az (a:=ay w.heap.size 0) e1).trans y0,(az (a:=ay w.heap.size 1) e1).trans y1,(az (a:=ay w.heap.size 2) e1).trans y2,(az (a:=ay w.heap.size 3) e1).trans y3,(az (a:=ay w.heap.size 4) e1).trans y4,(az (a:=ay w.heap.size 5) e1).trans y5,(az (a:=ay w.heap.size 6) e1).trans y6,(az (a:=ay B 0) e2).trans y7,(az (a:=ay B 1) e2).trans y8⟩
    have HS0:=bj (HS w9.drew (bo (aw _ _)))
    go_region_held3 (fun w'=>dS w' w.heap.size 0=some (dy op)∧(dS w' w.heap.size 1)=some (dy a)∧(dS w' w.heap.size 2)=some (dy b)∧(dS w' w.heap.size 3)=some (dy c)∧(dS w' w.heap.size 4)=some (P0 fb)∧(dS w' w.heap.size 5)=some (P0 tb)∧(dS w' w.heap.size 6)=some (P0 eb)∧(dS w' B 0)=some (aj cg.1)∧(dS w' B 1)=some (aj cg.2)) (first|exact HS0|exact HS5|exact HS6) (first|(go_at_call 94;refine du (HC w9.drew (bo KGQ)) λw5 hg5=>?_;have KG5:Hid (w9.grownBy w5 none):=⟨hg5.os,hg5.tape,hg5.output,hg5.size,hg5.block⟩;have HS5:=bj (HS w5 KG5);clear hg5)|(go_at_call 60;refine du (HE (by first|rfl|trivial) HM w5 (ar KGQ KG5) (dm (ch HXQ) KG5.size)) ?_;rintro w6 ⟨hR6,hK6⟩;have HR6:=bj hR6;have HS6:=bj (HS6F w5 w6 KG5 hK6);have HX6:Hid (w6.heap[w.heap.size]? = some (ju op a b c fb tb eb)):=(hK6 w.heap.size (bq _) (dm (ch HXQ) KG5.size)).trans (dv KG5 HXQ);clear hR6 hK6))
    all_goals
     clear x0 x1 x2 x3 x4 x5 x6 v0 v1
     obtain⟨x0,x1,x2,x3,x4,x5,x6⟩:=eZ HX6
     have lx6:=ch HX6
     go_wp2_with fail
     have HY7:Hid ((w6.drew.alloc (.cells #[aj 0,aj num] 149)).heap[w.heap.size]? = some (ju op a b c fb tb eb)):=HZ w6.drew _ _ _ HX6
     go_region_held3 (fun w'=>dS w' w.heap.size 0=some (dy op)∧(dS w' w.heap.size 1)=some (dy a)∧(dS w' w.heap.size 2)=some (dy b)∧(dS w' w.heap.size 3)=some (dy c)∧(dS w' w.heap.size 4)=some (P0 fb)∧(dS w' w.heap.size 5)=some (P0 tb)∧(dS w' w.heap.size 6)=some (P0 eb)) (first|exact eZ (show w6.drew.heap[w.heap.size]? = _ from HX6)|exact eZ HY7|exact eZ HY8) (first|(go_at_call 61;refine du (fG _ _) ?_;rintro w7 rfl)|(go_at_call 149;refine du (HST w6 _ HR6 (ax (bo (aw _ _)) _)) ?_;rintro w8 ⟨hR8,hK8⟩;have HR8:=bj hR8;have HY8:Hid (w8.heap[w.heap.size]? = some (ju op a b c fb tb eb)):=hK8.trans HY7;clear hR8 hK8))
     all_goals
      go_wp2
      go_ret
      exact⟨by have h:=HM.out;simp[kG,h],HR8⟩
def ry(ok:Bool)(m:Nat):Int:=if ok=false then 4 else if m=20 then 5 else 0
theorem Ms(op a b c fb tb eb sb m ck ff:Nat)(x y i:B.V)(ok:Bool)(ao:Option Addr)(R:aa->Prop)(w:aa)(hb:∀w1,w.grownBy w1 none->dD 86 #[ed op a b c fb tb eb] w1 (vA x) λw'=>w1.grownBy w' none)(hf:∀w1,w.grownBy w1 none->dD 162 #[P0 sb,vA x] w1 (.tuple #[aj ff,vA i,.bool ok]) λw'=>w1.grownBy w' none)(hc:∀w1,w.grownBy w1 none->dD 94 #[ed op a b c fb tb eb] w1 (vA y) λw'=>w1.grownBy w' none)(he:ok=true->m≠20->∀w1,w.grownBy w1 none->eL 119 #[P0 eb,P0 tb,aj ff,vA y,vA i,.func (.func 149) #[ed op a b c fb tb eb] #[]] w1 λw'=>R w'/\∀k,w.heap.size<=k->k<w1.heap.size->w'.heap[k]? = w1.heap[k]?)(h0:∀w1,w.grownBy w1 none->(ok=false\/m=20)->R w1)(aB:w.cell? (ay eb 27)=some (P0 sb))(c1:w.cell? (ay tb 1)=some (.slice ao m ck)): dD 104 #[ed op a b c fb tb eb] w (aj (ry ok m)) λw'=>R w':=by
 have HB:=bj hb;have HF:=bj hf;have HC:=bj hc;have HE:=bj he;have H0:=bj h0;have le:=gM aB;have lt:=gM c1;clear hb hf hc he h0;delta dD;go_in;go_wp2_with fail
 have a8:=bj (iN w op a b c fb tb eb);have a5:=bj (ak w (.cells #[dy op,dy a,dy b,dy c,P0 fb,P0 tb,P0 eb] 186) none);generalize hW:w.alloc (.cells #[dy op,dy a,dy b,dy c,P0 fb,P0 tb,P0 eb] 186)=w1 at *;have aL:Hid (w1.heap.size=w.heap.size+1):=by show _=_;rw[<-hW];simp
 clear hW;have HK:Hid (∀w',w.grownBy w' none->w'.heap[w.heap.size]? = some (ju op a b c fb tb eb)->w'.cell? (ay w.heap.size 0)=some (dy op)/\w'.cell? (ay w.heap.size 1)=some (dy a)/\w'.cell? (ay w.heap.size 2)=some (dy b)/\w'.cell? (ay w.heap.size 3)=some (dy c)/\w'.cell? (ay w.heap.size 4)=some (P0 fb)/\w'.cell? (ay w.heap.size 5)=some (P0 tb)/\w'.cell? (ay w.heap.size 6)=some (P0 eb)/\w'.cell? (ay eb 27)=some (P0 sb)):=λw' hg hx=>by
  obtain⟨x0,x1,x2,x3,x4,x5,x6⟩:=eZ hx;exact⟨x0,x1,x2,x3,x4,x5,x6,(bd hg (a:=ay eb 27) le).1.trans aB⟩
 have a4:Hid (∀(w':aa) (B:Nat) (u v:Value),w.grownBy w' none->w'.heap[w.heap.size]? = some (ju op a b c fb tb eb)->w.heap.size<B->w.grownBy ((w'.setCell (ay B 0) u).setCell (ay B 1) v) none/\((w'.setCell (ay B 0) u).setCell (ay B 1) v).heap[w.heap.size]? = some (ju op a b c fb tb eb)):=λw' B u v hg hx hB=>
  ⟨bu (bu hg (ah (jd hB)) _) (ah (jd hB)) _,((ab _ _ _ _ (oI hB)).trans (ab _ _ _ _ (oI hB))).trans hx⟩
 have aE:Hid (∀(w':aa) (B:Nat) (u v:Value) (hg:w.grownBy w' none) (hx:w'.heap[w.heap.size]? = some (ju op a b c fb tb eb)) (hB:w.heap.size<B),_):=λw' B u v hg hx hB=>HK _ (a4 w' B u v hg hx hB).1 (a4 w' B u v hg hx hB).2;have HZ:Hid (∀(w':aa) (o:Obj) (k:Nat) (o':Obj),w'.heap[k]? = some o'->(w'.alloc o).heap[k]? = some o'):=λw' o k o' hk=>by
  rw[av _ _ _ (ch hk)];exact hk
 go_region_held3 (λw'=>w'.cell? (ay w.heap.size 0)=some (dy op)/\w'.cell? (ay w.heap.size 1)=some (dy a)/\w'.cell? (ay w.heap.size 2)=some (dy b)/\w'.cell? (ay w.heap.size 3)=some (dy c)/\w'.cell? (ay w.heap.size 4)=some (P0 fb)/\w'.cell? (ay w.heap.size 5)=some (P0 tb)/\w'.cell? (ay w.heap.size 6)=some (P0 eb)/\w'.cell? (ay eb 27)=some (P0 sb)) (first|exact HK _ (bo a5) a8|exact HK _ (ax (bo a5) _) (HZ _ _ _ _ a8)|exact HK _ a0 a3|exact HK _ (ax a0 _) (HZ _ _ _ _ a3)|exact HK _ W Y|exact HK _ (ax W _) (HZ _ _ _ _ Y)|exact aE G _ _ _ W Y a1|exact aE _ _ _ _ (ax W _) (HZ _ _ _ _ Y) (ch Y)) (first|(go_at_call 86;refine du (HB w1.drew (bo a5)) λw2 a2=>?_;have a0:Hid (w.grownBy w2 none):=ar (bo a5) a2;have a3:=bj (dv a2 (show w1.drew.heap[w.heap.size]? = _ from a8));clear a2)|(go_at_call 86;refine du (HB (w1.drew.alloc (.cells #[aj 0,aj 0] 149)) (ax (bo a5) _)) λw2 a2=>?_;have a0:Hid (w.grownBy w2 none):=ar (ax (bo a5) _) a2;have a3:=bj (dv a2 (HZ w1.drew _ _ _ a8));have aC:Hid (w2.heap[w1.heap.size]? = some (.cells #[aj 0,aj 0] 149 (0,0))):=dv a2 (bl w1.drew _);clear a2)|(go_at_call 162;refine du (HF w2 a0) λG J=>?_;have W:Hid (w.grownBy G none):=ar a0 J;have Y:=bj (dv J a3);have H:=dv J aC;have a1:Hid (w.heap.size<w1.heap.size):=(by show _<_;rw[aL.out];omega);have r0:G.cell? (ay w1.heap.size 0)=some (aj 0):=(by simp[World.cell?,H]);have r1:G.cell? (ay w1.heap.size 1)=some (aj 0):=(by simp[World.cell?,H]);have r2:G.frozen? (ay w1.heap.size 0)=false:=(by simp[World.frozen?,H]);have r3:G.frozen? (ay w1.heap.size 1)=false:=(by simp[World.frozen?,H]);have lB:=ch H;clear H;clear J)|(go_at_call 162;refine du (HF w2 a0) λG J=>?_;have W:Hid (w.grownBy G none):=ar a0 J;have Y:=bj (dv J a3);clear J)|(go_at_call 162;refine du (HF (w2.alloc (.cells #[aj 0,aj 0] 149)) (ax a0 _)) λG J=>?_;have W:Hid (w.grownBy G none):=ar (ax a0 _) J;have Y:=bj (dv J (HZ w2 _ _ _ a3));have H:G.heap[w2.heap.size]? = some (.cells #[aj 0,aj 0] 149 (0,0)):=dv J (bl w2 _);have a1:Hid (w.heap.size<w2.heap.size):=ch a3;have r0:G.cell? (ay w2.heap.size 0)=some (aj 0):=(by simp[World.cell?,H]);have r1:G.cell? (ay w2.heap.size 1)=some (aj 0):=(by simp[World.cell?,H]);have r2:G.frozen? (ay w2.heap.size 0)=false:=(by simp[World.frozen?,H]);have r3:G.frozen? (ay w2.heap.size 1)=false:=(by simp[World.frozen?,H]);have lB:=ch H;clear H;clear J))
 all_goals
  first
  |rename_i hh
   clear hh;have Z:Hid (w.grownBy (((G.setCell (ay w2.heap.size 0) (aj i.1)).setCell (ay w2.heap.size 1) (aj i.2))) none):=(a4 G _ _ _ W Y a1).1;have a7:Hid ((((G.setCell (ay w2.heap.size 0) (aj i.1)).setCell (ay w2.heap.size 1) (aj i.2))).heap[w.heap.size]? = some (ju op a b c fb tb eb)):=(a4 G _ _ _ W Y a1).2;have u0:(((G.setCell (ay w2.heap.size 0) (aj i.1)).setCell (ay w2.heap.size 1) (aj i.2))).cell? (ay w2.heap.size 0)=some (aj i.1):=by simp[go_sem,r0,r1,r2,r3,lB]
   have u1:(((G.setCell (ay w2.heap.size 0) (aj i.1)).setCell (ay w2.heap.size 1) (aj i.2))).cell? (ay w2.heap.size 1)=some (aj i.2):=by simp[go_sem,r0,r1,r2,r3,lB]
   clear r0 r1 r2 r3 lB;have lB:=gM u0;have a9:Hid (w.heap.size<=w2.heap.size):=jd a1;generalize ((G.setCell (ay w2.heap.size 0) (aj i.1)).setCell (ay w2.heap.size 1) (aj i.2))=w4 at *;generalize w2.heap.size=B at *
  |rename_i hh
   clear hh;have Z:Hid (w.grownBy (((G.setCell (ay w1.heap.size 0) (aj i.1)).setCell (ay w1.heap.size 1) (aj i.2))) none):=(a4 G _ _ _ W Y a1).1;have a7:Hid ((((G.setCell (ay w1.heap.size 0) (aj i.1)).setCell (ay w1.heap.size 1) (aj i.2))).heap[w.heap.size]? = some (ju op a b c fb tb eb)):=(a4 G _ _ _ W Y a1).2;have u0:(((G.setCell (ay w1.heap.size 0) (aj i.1)).setCell (ay w1.heap.size 1) (aj i.2))).cell? (ay w1.heap.size 0)=some (aj i.1):=by simp[go_sem,r0,r1,r2,r3,lB]
   have u1:(((G.setCell (ay w1.heap.size 0) (aj i.1)).setCell (ay w1.heap.size 1) (aj i.2))).cell? (ay w1.heap.size 1)=some (aj i.2):=by simp[go_sem,r0,r1,r2,r3,lB]
   clear r0 r1 r2 r3 lB;have lB:=gM u0;have a9:Hid (w.heap.size<=w1.heap.size):=jd a1;generalize ((G.setCell (ay w1.heap.size 0) (aj i.1)).setCell (ay w1.heap.size 1) (aj i.2))=w4 at *;generalize w1.heap.size=B at *
  |rename_i hh
   clear hh;have Z:Hid (w.grownBy ((G.alloc (.cells #[aj i.1,aj i.2] 149))) none):=ax W _;have a7:Hid (((G.alloc (.cells #[aj i.1,aj i.2] 149))).heap[w.heap.size]? = some (ju op a b c fb tb eb)):=HZ _ _ _ _ Y;have u0:((G.alloc (.cells #[aj i.1,aj i.2] 149))).cell? (ay G.heap.size 0)=some (aj i.1):=by simp[go_sem]
   have u1:((G.alloc (.cells #[aj i.1,aj i.2] 149))).cell? (ay G.heap.size 1)=some (aj i.2):=by simp[go_sem]
   have lB:=gM u0;have a9:Hid (w.heap.size<=G.heap.size):=W.size;generalize (G.alloc (.cells #[aj i.1,aj i.2] 149))=w4 at *;generalize G.heap.size=B at *
 all_goals
  obtain⟨x0,x1,x2,x3,x4,x5,x6⟩:=eZ a7;have lx:=ch a7;have d1:=(bd Z (a:=ay tb 1) lt).1.trans c1;have aO:tb<w4.heap.size:=dm lt Z.size;have aN:eb<w4.heap.size:=dm le Z.size
  cases ok with
  |false=>
   go_wp2_with fail
   go_ret;exact⟨rfl,H0 _ Z (af (by first|rfl|trivial))⟩
  |true=>
   by_cases hm:m=20
   .have aM:(m:Int)=20:=ag
    have HM:=bj hm;clear hm;go_wp2_with fail
    go_ret;exact⟨jx HM.out,H0 _ Z (ah HM)⟩
   have aM:¬((m:Int)=20):=ag
   have HM:=bj hm;clear hm;go_wp2_with fail
   have HS:Hid (∀w',w4.grownBy w' none->w'.cell? (ay w.heap.size 0)=some (dy op)/\w'.cell? (ay w.heap.size 1)=some (dy a)/\w'.cell? (ay w.heap.size 2)=some (dy b)/\w'.cell? (ay w.heap.size 3)=some (dy c)/\w'.cell? (ay w.heap.size 4)=some (P0 fb)/\w'.cell? (ay w.heap.size 5)=some (P0 tb)/\w'.cell? (ay w.heap.size 6)=some (P0 eb)/\w'.cell? (ay B 0)=some (aj i.1)/\w'.cell? (ay B 1)=some (aj i.2)):=λw' hg=>by
    obtain⟨x0,x1,x2,x3,x4,x5,x6⟩:=eZ (dv hg a7);exact⟨x0,x1,x2,x3,x4,x5,x6,(bd hg (a:=ay B 0) lB).1.trans u0,(bd hg (a:=ay B 1) lB).1.trans u1⟩
   have aD:Hid (∀w5 w':aa,w4.grownBy w5 none->(∀k,w.heap.size<=k->k<w5.heap.size->w'.heap[k]? = w5.heap[k]?)->w'.cell? (ay w.heap.size 0)=some (dy op)/\w'.cell? (ay w.heap.size 1)=some (dy a)/\w'.cell? (ay w.heap.size 2)=some (dy b)/\w'.cell? (ay w.heap.size 3)=some (dy c)/\w'.cell? (ay w.heap.size 4)=some (P0 fb)/\w'.cell? (ay w.heap.size 5)=some (P0 tb)/\w'.cell? (ay w.heap.size 6)=some (P0 eb)/\w'.cell? (ay B 0)=some (aj i.1)/\w'.cell? (ay B 1)=some (aj i.2)):=λw5 w' hg hk=>by
    obtain⟨y0,y1,y2,y3,y4,y5,y6,y7,y8⟩:=HS w5 hg;have hz:=hg.size;have e1:=hk w.heap.size (bq _) ag;have e2:=hk B a9 ag;exact⟨(az (a:=ay w.heap.size 0) e1).trans y0,(az (a:=ay w.heap.size 1) e1).trans y1,(az (a:=ay w.heap.size 2) e1).trans y2,(az (a:=ay w.heap.size 3) e1).trans y3,(az (a:=ay w.heap.size 4) e1).trans y4,(az (a:=ay w.heap.size 5) e1).trans y5,(az (a:=ay w.heap.size 6) e1).trans y6,(az (a:=ay B 0) e2).trans y7,(az (a:=ay B 1) e2).trans y8⟩
   have aJ:=bj (HS w4.drew (bo (aw _ _)));go_region_held3 (λw'=>w'.cell? (ay w.heap.size 0)=some (dy op)/\w'.cell? (ay w.heap.size 1)=some (dy a)/\w'.cell? (ay w.heap.size 2)=some (dy b)/\w'.cell? (ay w.heap.size 3)=some (dy c)/\w'.cell? (ay w.heap.size 4)=some (P0 fb)/\w'.cell? (ay w.heap.size 5)=some (P0 tb)/\w'.cell? (ay w.heap.size 6)=some (P0 eb)/\w'.cell? (ay B 0)=some (aj i.1)/\w'.cell? (ay B 1)=some (aj i.2)) (first|exact aJ|exact aK|exact aH) (first|(go_at_call 94;refine du (HC w4.drew (bo Z)) λw5 a6=>?_;have aA:Hid (w4.grownBy w5 none):=⟨a6.os,a6.tape,a6.output,a6.size,a6.block⟩;have aK:=bj (HS w5 aA);clear a6)|(go_at_call 119;refine du (HE (by first|rfl|trivial) HM w5 (ar Z aA)) ?_;rintro w6 ⟨aF,aG⟩;have aI:=bj aF;have aH:=bj (aD w5 w6 aA aG);clear aF aG))
   all_goals
    go_wp2_with fail
    go_ret;exact⟨by have h:=HM.out;simp[ry,h],aI⟩
def MU(w w2:aa)(tb:Nat)(u:Int):Prop:=∃w1,w.grownBy w1 none/\w2=w1.setCell ⟨tb,5,none⟩ (.int .i64 u)/\w2.heap[w.heap.size]? = some (.cells #[P0 tb] 155 (0,0))
theorem Jh(eb tb n sc:Nat)(sa:Option Addr)(clk x j:Int)(Tk:Nat->Value)(R:aa->Prop)(w:aa)(ne:eb≠tb)(a0:w.cell? (ay eb 28)=some (aj clk))(a3:w.cell? (ay eb 33)=some (.slice sa n sc))(hT:Full w tb 160 7 7 Tk)(c0:0<=clk)(c1:clk<=9223372036854775807)(HI:∀w2 u,MU w w2 tb (B.iJ clk x)->w2.grownBy u none->dD 205 #[.slice sa n sc,Fv 204 #[P0 w.heap.size]] u (aj j) λw'=>u.grownBy w' none)(HN:∀w2 u,MU w w2 tb (B.iJ clk x)->w2.grownBy u none->eL 166 #[Pt eb 33,aj (if j<0 then(n:Int) else j),P0 tb] u λw'=>R w'/\w'.heap[w.heap.size]? = some (.cells #[P0 tb] 155 (0,0))): eL 168 #[P0 eb,P0 tb,aj x] w λw'=>R w':=by
 have aI:=bj HI;have H:=bj HN;have le:=gM a0;have lt:=hT.lt;have KT:=bj hT;have HC:=bj (bh c0 c1);clear HI HN hT c0 c1;delta eL;go_in;go_wp2_with fail
 have J:=bj (ak w (.cells #[P0 tb] 155) none);have hx:=bl w (.cells #[P0 tb] 155);have aD:(w.alloc (.cells #[P0 tb] 155)).heap.size=w.heap.size+1:=eB
 generalize hW:w.alloc (.cells #[P0 tb] 155)=w1 at *;have x0:w1.cell? (ay w.heap.size 0)=some (P0 tb):=fy hx
 have HX:=bj hx;clear hW hx;have a4:=bj (KT.out.block (J.out.block tb lt im));have G:=(bd J.out (a:=ay eb 28) le).1.trans a0;have Y:=(bd J.out (a:=ay eb 33) le).1.trans a3;obtain⟨d5,z5⟩:=a4.out.cells 5 ag;generalize Tk 5=y5 at d5;have aN:eb<w1.heap.size:=ag
 have aM:=a4.out.lt;have a8:w.heap.size≠tb:=ag
 have aJ:¬tb=w.heap.size:=ag
 have aB:=bj (λw' h=>wD eb clk x w' h HC.out.1 HC.out.2);have aF:=bj ne;clear a0 a3;go_region_with (go_at_call 64;refine du (aB.out _ (by first|exact G|(show w1.cell? _=_;exact G))) ?_;rintro w2 rfl)
 all_goals
  have a9:MU w (w1.setCell (ay tb 5) (aj (B.iJ clk x))) tb (B.iJ clk x):=⟨w1,J.out,rfl,(ab _ _ _ _ a8).trans HX.out⟩;have a2:=bj a9;have a6:(w1.setCell (ay tb 5) (aj (B.iJ clk x))).cell? (ay eb 33)=some (.slice sa n sc):=by rw[az (a:=ay eb 33) (ab _ _ _ _ aF.out)];exact Y
  have x2:(w1.setCell (ay tb 5) (aj (B.iJ clk x))).cell? (ay w.heap.size 0)=some (P0 tb):=by rw[az (a:=ay w.heap.size 0) (ab _ _ _ _ a8)];exact x0
  have aC:(w1.setCell (ay tb 5) (aj (B.iJ clk x))).heap.size=w1.heap.size:=by simp[World.setCell]
  generalize aG:w1.setCell (ay tb 5) (aj (B.iJ clk x))=w2 at *;have aA:eb<w2.heap.size:=ag
  have a5:w.heap.size<w2.heap.size:=ag
  clear aG G d5 z5 Y x0 aB a9 aC aD;go_wp2_with fail
  refine du (aI.out w2 _ a2.out (bo (aw w2 none))) λu W=>?_;have o:=ar (bo (aw w2 none)) W;clear W;have a7:=bj o;have aK:=(bd o (a:=ay eb 33) aA).1.trans a6;have x3:=(bd o (a:=ay w.heap.size 0) a5).1.trans x2;have aO:=dm aA o.size;have aL:=dm a5 o.size;clear o a6 x2;by_cases Z:j<0
  .have HJ:=bj Z;rw[bf Z]at H;have aH:decide (j<0)=true:=gG Z
   clear Z;go_wp2_with fail
   go_region_with (go_at_call 166;refine du (H.out w2 u.drew a2.out (bo a7.out)) ?_;rintro w4 ⟨y,i⟩;have a1:=bj y;clear y i)
   all_goals
    go_wp2_with fail
    go_end0;exact⟨rfl,a1.out⟩
  have HJ:=bj Z;rw[au Z]at H;have aH:decide (j<0)=false:=gG Z
  clear Z;go_wp2_with fail
  go_region_with (go_at_call 166;refine du (H.out w2 u.drew a2.out (bo a7.out)) ?_;rintro w4 ⟨y,i⟩;have a1:=bj y;clear y i)
  all_goals
   go_wp2_with fail
   go_end0;exact⟨rfl,a1.out⟩
theorem GF(op a b c fb tb eb:Nat)(z:Int)(w:aa)(o:∀w1,w.grownBy w1 none->dD 130 #[P0 eb,aj z] w1 (.tuple #[.pointer none,.bool false]) λw'=>w'=w1): dD 116 #[ed op a b c fb tb eb,aj z] w (aj 8) λw'=>w.grownBy w' none:=by
 have i:=bj o;delta dD;go_in;go_wp2_with fail
 refine du (i _ (ak _ _ _)) ?_;rintro w2 rfl;go_wp2
 go_ret;simp[ak]
theorem Cl(op a b c fb tb eb o x:Nat)(z:Int)(hx:x<256)(R1 R:aa->Prop)(w:aa)(H1:∀w1,w.grownBy w1 none->dD 130 #[P0 eb,aj z] w1 (.tuple #[Pt eb o,.bool true]) λw'=>w'=w1)(H2:∀w1,w.grownBy w1 none->dD 174 #[Pt eb o] w1 (.tuple #[dy x,.bool true]) λw'=>R1 w'/\(∀k,w.heap.size<=k->k<w1.heap.size->w'.heap[k]? = w1.heap[k]?))(H3:∀w1 w2,R1 w1->w1.grownBy w2 none->eL 149 #[ed op a b c fb tb eb,vA (0,(x:Int))] w2 λw'=>R w'/\(∀k,w.heap.size<=k->k<w2.heap.size->w'.heap[k]? = w2.heap[k]?)): dD 116 #[ed op a b c fb tb eb,aj z] w (aj 0) λw'=>R w':=by
 have a4:=bj H1;have a0:=bj H2;have a5:=bj H3;have a7:IntKind.i64.wrap (x:Int)=x:=by simp[IntKind.wrap,IntKind.bits,IntKind.signed];omega
 delta dD;go_in;go_wp2_with fail
 have H:=bj (iN w op a b c fb tb eb);have Z:=bj (ak w (.cells #[dy op,dy a,dy b,dy c,P0 fb,P0 tb,P0 eb] 186) none);generalize hW:w.alloc (.cells #[dy op,dy a,dy b,dy c,P0 fb,P0 tb,P0 eb] 186)=w1 at *;refine du (a4 w1 Z) ?_;rintro w2 rfl;go_wp2_with fail
 refine du (a0 w2 Z) ?_;rintro y ⟨Y,J⟩;have a1:=bj Y;have i:=bj ((J w.heap.size (bq _) (ch H)).trans H);go_wp2_with fail
 have u:Hid ((y.drew.alloc (.cells #[aj 0,aj x] 149)).heap[w.heap.size]? = some (ju op a b c fb tb eb)):=(av y.drew _ _ (show w.heap.size<y.drew.heap.size from (ch i))).trans i;go_region_held3 (λw'=>dS w' w.heap.size 0=some (dy op)/\dS w' w.heap.size 1=some (dy a)/\dS w' w.heap.size 2=some (dy b)/\dS w' w.heap.size 3=some (dy c)/\dS w' w.heap.size 4=some (P0 fb)/\dS w' w.heap.size 5=some (P0 tb)/\dS w' w.heap.size 6=some (P0 eb)) (first|exact eZ (show y.drew.heap[w.heap.size]? = _ from i)|exact eZ u|exact eZ a3) (first|(go_at_call 61;refine du (fG _ _) ?_;rintro w7 rfl)|(go_at_call 149;refine du (a5 y _ a1 (ax (bo (aw _ _)) _)) ?_;rintro w8 ⟨W,G⟩;have a2:=bj W;have a3:=bj ((G w.heap.size (bq _) (ch u)).trans u);clear W G))
 all_goals
  go_wp2
  go_ret;exact⟨rfl,a2⟩
theorem Ck(op a b c fb tb eb o : Nat) (z : Int) (R : aa → Prop) (w : aa) (le : eb < w.heap.size) (H1 : ∀ w1, w.grownBy w1 none → Calls prog 130 #[P0 eb, aj z] w1 fun e w' => e = .returned (.tuple #[Pt eb o, .bool true]) ∧ w' = w1)
    (H2 : ∀ w1, w.grownBy w1 none → Calls prog 174 #[Pt eb o] w1 fun e w' => e = .returned (.tuple #[dy 0, .bool false]) ∧ w' = w1)
    (H3 : ∀ w1, w.grownBy w1 none → Calls prog 171 #[ed op a b c fb tb eb, Pt eb (o + 1)] w1 fun e w' => e = .returned (.tuple #[]) ∧ R w') :
    Calls prog 116 #[ed op a b c fb tb eb, aj z] w fun e w' => e = .returned (aj 0) ∧ R w' := by
  have HH1 := bj H1
  have HH2 := bj H2
  have HH3 := bj H3
  go_in
  go_wp2_with fail
  have HX1 := bj (iN w op a b c fb tb eb)
  have KG1 := bj (ak w (.cells #[dy (op : Int), dy (a : Int), dy (b : Int), dy (c : Int), P0 fb, P0 tb, P0 eb] 186) none)
  generalize hW : w.alloc (.cells #[dy (op : Int), dy (a : Int), dy (b : Int), dy (c : Int), P0 fb, P0 tb, P0 eb] 186) = w1 at *
  refine du (HH1 w1 KG1) ?_;rintro w2  rfl
  go_wp2_with fail
  refine du (HH2 w2 KG1) ?_;rintro w3  rfl
  obtain⟨x0, x1, x2, x3, x4, x5, x6⟩ := eZ HX1
  go_wp2_with fail
  first
    | (refine du (HH3 w3 KG1) ?_;rintro w4  hR4
       have HR4 := bj hR4
       go_wp2
       go_ret
       exact⟨rfl, HR4⟩)
    | (go_region_with (go_at_call 171; refine (HH3 w3.drew (bo KG1)).mono ?_; rintro e w4 ⟨rfl, hR4⟩; have HR4 := bj hR4; clear hR4)
       all_goals
         go_wp2
         go_ret
         exact⟨rfl, HR4⟩)
theorem Es{α:Type}(xs:List α)(y:α)(k j:Nat)(v:α)(G:k<xs.length)(h:(xs.take k++y :: xs.drop k)[j]? = some v):(j<k/\xs[j]? = some v)\/(j=k/\v=y)\/(∃i,j=k+1+i/\(xs.drop k)[i]? = some v):=by
 grind
def uX{w:aa}{g n:Nat}{T:TypeId}(h:jF w g T n):jF w.drew g T n:=h
theorem DR(n k x c:Nat)(y:Value)(hy:y.oneCell'=true)(xs:List Value)(h1:∀v∈xs,v.oneCell'=true)(w:aa)(ad:Option Addr)(hown:w.ownsRow 0 155 1 (.slice ad n c) n xs)(hk:k<n)(hx:w.heap[x]? = some (.cells #[y] 155 (0,0)))(hxb:∀b,(Value.slice ad n c).ownBlock=some b->b≠x)(hn2:n<=900000000): Calls prog 203 #[.slice ad n c,aj k,dA x 1 1] w λe w'=>∃g' c',e=.returned (dA g' (n+1) c')/\w'.ownsRow 0 155 1 (dA g' (n+1) c') (n+1) (xs.take k++y :: xs.drop k)/\w.grownBy w' (Value.slice ad n c).ownBlock/\((Value.slice ad n c).ownBlock=some g'\/w.heap.size<=g'):=by
 obtain⟨b,c2,he⟩:=ee hown ag;injection he with he1 _ he2;subst he1 he2;obtain⟨_,hnc,hcm,hlen,hB,hcell⟩:=gZ hown;have hxy:w.cell? (ay x 0)=some y:=fy hx
 have hlx:(xs.take k++y :: xs.drop k).length=n+1:=by
  rw[cw,List.length_cons,List.length_take,List.length_drop];omega
 have hdl:(xs.drop k).length=n-k:=kr List.length_drop;by_cases hroom:n+1<=c
 .have hsp:∀j,j<n+1->(w.cell? (ay b j)).isSome=true:=λj hj=>by
   obtain⟨⟨v,hv⟩,_⟩:=hB.cell j ag;grind
  obtain⟨cur,hcur,hsz⟩:=id hB;refine du (B1 b n c k x xs y w hk hroom (by grind[maxLen]) (λe=>hxb b rfl e.symm) hlen hcell hsp (λj hj=>(hB.cell j ag).2) hxy h1 hy 155 155 1 c (by simp[World.shape?,hx]) (by grind[World.shape?]) ag (qE hx) (qE hx)) ?_;rintro w' rfl;have hsp2:∀j,j < [y].length->((w.drew.setCells b (k+1) (xs.drop k)).cell? (ay b (k+j))).isSome=true:=λj hj=>by
   have hj0:j=0:=by simp at hj;exact hj
   subst hj0;rw[World.cell?_setCells_out b (xs.drop k) (k+1) w.drew (ay b (k+0)) (λ_ _=>af eR)];simp_all
  refine⟨b,c,rfl,nD (dk _) hroom hcm hlx (jF.wO b _ _ _ (jF.wO b _ _ _ (uX hB))) (λj v hj=>?_),mO b (mO b (bo (aw _ _)) _ _) _ _,af rfl⟩;rcases Es xs y k j v ag hj with⟨a1,a2⟩|⟨rfl,rfl⟩|⟨i,rfl,a2⟩
  .rw[World.cell?_setCells_out b [y] k _ (ay b j) (λ_ _=>af a1),World.cell?_setCells_out b (xs.drop k) (k+1) _ (ay b j) (λ_ _=>af (by show j<k+1;omega))];exact hcell j v a2
  .exact World.cell?_setCells_in b [v] j _ hsp2 0 eB
  obtain⟨hi,e⟩:=cf.1 a2;rw[World.cell?_setCells_out b [y] k _ (ay b (k+1+i)) (λ_ _=>ah (by show k+1<=k+1+i;omega)),(World.cell?_setCells_in b (xs.drop k) (k+1) w.drew (λj hj=>hsp _ ag)) i hi,e]
 refine du (B3 b n c k x xs y w hk hnc ag ag hlen hcell hxy h1 hy) ?_;rintro w' rfl;have hGn:n+1<=grownCap w (n+1) c 155:=grownCap_ge w _ _ _;have hGm:=grownCap_le_maxLen w (n+1) c 155 pY;generalize grownCap w (n+1) c 155=G at *;obtain⟨ROW,hROW⟩:∃ROW:Array Value,ROW=(xs.take k).toArray++Builtin.zeroCells (Value.pointer none).cells (n+1-k)++Builtin.zeroCells (Value.pointer none).cells (G-(n+1)):=⟨_,rfl⟩;have hRs:ROW.size=G:=by
  rw[hROW];simp[Builtin.zeroCells,Value.cells];omega
 have hRg:∀j v,j<k->xs[j]? = some v->ROW[j]? = some v:=λj v hj hv=>by
  rw[hROW,Array.getElem?_append_left (by simp[Builtin.zeroCells,Value.cells];omega),Array.getElem?_append_left fH];simp[hj,hv]
 rw[<-hROW];have hnew:(w.alloc (.cells ROW 155)).heap[w.heap.size]? = some (.cells ROW 155 (0,0)):=bl w _;have hB0:jF (w.alloc (.cells ROW 155)) w.heap.size 155 G:=⟨ROW,hnew,hRs⟩;have hB1:jF (((w.alloc (.cells ROW 155)).drew.setCells w.heap.size k [y]).drew) w.heap.size 155 G:=jF.wO _ _ _ _ (uX hB0);have hsome:∀(W:aa),jF W w.heap.size 155 G->∀j,j<n+1->(W.cell? (ay w.heap.size j)).isSome=true:=λW hW j hj=>by
  obtain⟨⟨v,hv⟩,_⟩:=hW.cell j ag;rw[hv];rfl
 refine⟨w.heap.size,G,rfl,nD (dk _) hGn hGm hlx (jF.wO _ _ _ _ hB1) (λj v hj=>?_),?_,ah (bq _)⟩
 .rcases Es xs y k j v ag hj with⟨a1,a2⟩|⟨rfl,rfl⟩|⟨i,rfl,a2⟩
  .rw[World.cell?_setCells_out w.heap.size (xs.drop k) (k+1) _ (ay w.heap.size j) (λ_ _=>af (by show j<k+1;omega))];show((w.alloc (.cells ROW 155)).drew.setCells w.heap.size k [y]).cell? (ay w.heap.size j)=_;rw[World.cell?_setCells_out w.heap.size [y] k _ (ay w.heap.size j) (λ_ _=>af a1)];show(w.alloc (.cells ROW 155)).cell? (ay w.heap.size j)=_;simp only[World.cell?,hnew];exact hRg j v a1 a2
  .rw[World.cell?_setCells_out w.heap.size (xs.drop j) (j+1) _ (ay w.heap.size j) (λ_ _=>af (by show j<j+1;omega))];exact World.cell?_setCells_in w.heap.size [v] j _ (λj' hj'=>by
    have hj0:j'=0:=by simp at hj';exact hj'
    subst hj0;exact hsome _ (uX hB0) (j+0) ag) 0 eB
  obtain⟨hi,e⟩:=cf.1 a2;rw[<-e];exact World.cell?_setCells_in w.heap.size (xs.drop k) (k+1) _ (λj' hj'=>hsome _ hB1 (k+1+j') ag) i hi
 have hout:∀{W:aa},w.grownBy W (some b)->∀(vs:List Value) (o:Nat),w.grownBy (W.setCells w.heap.size o vs) (some b):=fun {W} hW vs=>by
  induction vs generalizing W with
  | nil=>intro o;exact hW
  | cons v vs ih=>intro o;exact ih (bu hW (ah (bq _)) _) (o+1)
 exact hout (bo (hout (bo (ak _ _ _)) _ _)) _ _
def MN(w w':aa)(b o:Nat)(T:TypeId)(N:Nat)(E Tk:Nat->Value)(ad:Option Addr)(n c tb k:Nat)(xs:List Nat):Prop:=
 ∃g c',Ln w' b o T N (eC E o (.slice (some ⟨g,0,none⟩) (n+1) c')) (some ⟨g,0,none⟩) (n+1) c' (xs.take k++tb :: xs.drop k)/\Full w' tb 160 7 7 (eC (eC Tk 2 (.bool false)) 3 (Pt b o))/\dM (λk=>k=b\/k=tb\/(Value.slice ad n c).ownBlock=some k) w w'/\((Value.slice ad n c).ownBlock=some g\/w.heap.size<=g)
theorem G8(b o c n tb N k:Nat)(hk:k<n)(T:TypeId)(ad:Option Addr)(E Tk:Nat->Value)(xs:List Nat)(R:aa->Prop)(w:aa)(nb:b≠tb)(nk:∀k,(Value.slice ad n c).ownBlock=some k->k≠b/\k≠tb)(aM:n<=900000000)(H:eL 133 #[P0 tb] w λw1=>Ln w1 b o T N E ad n c xs/\Full w1 tb 160 7 7 Tk/\R w1): eL 166 #[Pt b o,aj k,P0 tb] w λw'=>∃w1,R w1/\MN w1 w' b o T N E Tk ad n c tb k xs:=by
 have HH:=bj H;have HK:=bj nk;clear H nk;delta eL;go_in;go_wp2_with fail
 refine du HH ?_;rintro w1 ⟨hL,hT,hR⟩;obtain⟨a3,aG⟩:=hL.hE.cells o hL.ho;obtain⟨c2,z2⟩:=hT.cells 2 ag;obtain⟨c3,z3⟩:=hT.cells 3 ag;rw[hL.e]at a3;generalize Tk 2=y2 at c2;generalize Tk 3=y3 at c3;have le:=hL.hE.lt;have lt:=hT.lt;have Y:=bj hL;have HT:=bj hT;have HR:=bj hR;have aI:¬tb=b:=λe=>nb e.symm;clear hL hT hR;go_wp2_with fail
 generalize y:((w1.setCell (ay tb 2) (.bool false)).setCell (ay tb 3) (.pointer (some (ay b o)))).alloc (.cells #[P0 tb] 155)=w2;have aA:w2.heap.size=w1.heap.size+1:=by rw[<-y];simp[World.setCell]
 have G:∀k,k≠tb->k<w1.heap.size->w2.heap[k]? = w1.heap[k]?:=λk hk aE=>by
  grind[Below.heap_alloc,World.setCell,Below.heap_setCell]
 have W:Ln w2 b o T N E ad n c xs:={ hE:=Y.hE.block (G b nb le),ho:=Y.ho,e:=Y.e,row:=dQ Y.row (λk' a4=>G k' (HK k' a4).2 (dP Y.row k' a4).2.1),hn:=Y.hn };have a0:Full w2 tb 160 7 7 (eC (eC Tk 2 (.bool false)) 3 (Pt b o)):=by
  rw[<-y];exact(((HT.eC 2 _).eC 3 _).block (av _ _ _ (by simp_all)))
 have a2:w2.heap[w1.heap.size]? = some (.cells #[P0 tb] 155 (0,0)):=by
  rw[<-y];have:=bl ((w1.setCell (ay tb 2) (.bool false)).setCell (ay tb 3) (.pointer (some (ay b o)))) (.cells #[P0 tb] 155);simpa[World.setCell] using this
 have a9:dM (λk=>k=b\/k=tb\/(Value.slice ad n c).ownBlock=some k) w1 w2:=by
  rw[<-y];exact gP (bp (bp (dw _ _) (af (ah (af rfl))) _) (af (ah (af rfl))) _) _
 refine(DR n k w1.heap.size c (P0 tb) rfl (xs.map P0) (λv hv=>by obtain⟨u,_,rfl⟩:=eK.1 hv;rfl) w2 ad W.row hk a2 (λb' aC=>by have:=(dP Y.row b' aC).2.1;omega) ag).mono ?_;rintro e w3 ⟨g,c',rfl,a6,i,Z⟩;have J:=W.hE.block (i.block b W.hE.lt (λh=>(HK b h.symm).1 rfl));have a7:=a0.block (i.block tb a0.lt (λh=>(HK tb h.symm).2 rfl));have a8:=
  a9.trans (S1:=λk=>(Value.slice ad n c).ownBlock=some k) ⟨i.os,i.tape,i.output,i.size,λk hk hn=>i.block k hk (λe=>hn e.symm)⟩ (λk h _=>ah (ah h))
 have a5:g≠b/\g≠tb:=by
  rcases Z with h|h
  .exact HK g h
  exact⟨ag,ag⟩
 obtain⟨aJ,aL⟩:=J.cells o Y.ho;have aF:=bj J;have aD:=bj a7;have aH:=bj a8;have a1:=bj (bh a5 (bh Z aA));have aB:Hid (w3.ownsRow 0 155 1 (dA g (n+1) c') (n+1) ((xs.take k++tb :: xs.drop k).map P0)):=by
  show World.ownsRow _ _ _ _ _ _ _;rw[gR,List.map_take,List.map_cons,List.map_drop];exact a6
 clear y G W a0 a2 a9 a6 i Z J a7 a8 a5 a3 aG c2 z2 c3 z3;go_wp2_with fail
 go_end0;refine⟨rfl,w1,HR,g,c',{ hE:=aF.eC o _,ho:=Y.ho,e:=gO _ _ _,row:=dQ aB (λk' h=>?_),hn:=by omega },aD.off (λe=>nb e.symm),bp aH (af (af rfl)) _,?_⟩
 .have:k'=g:=by injection h with h;exact h.symm
  subst this;exact ab _ _ _ _ a1.1.1
 rcases a1.2.1 with h|h
 .exact af h
 exact ah ag
end
namespace F
theorem A1{w:aa}{pb n p i:Nat}{on:Nat->Bool}{f:Fb}{M:Nat->List B.V}(v:B.V)(h:oW w pb n on f M)(W:1<=p)(Z:p<=n)(Y:on p=true)(hi:i<(M p).length): oW ((w.setCell (ay (f.b p) (i*2)) (aj v.1)).setCell (ay (f.b p) (i*2+1)) (aj v.2)) pb n on f (B.lay M p ((M p).set i v)):=by
 have G:=h.s p W Z Y;obtain⟨a0,hV,_⟩:=id G;obtain⟨J,hP,_⟩:=id h.p;have H:=eE hP hV ek;refine⟨((h.p.off H).off H).congr (λj _=>?_),λq a b c=>?_,h.i,λq a=>?_,λq a h0=>?_⟩
 .grind[jI,B.iB,B.gh]
 .by_cases e:q=p
  .subst e;rw[B.iB];simp only[eA];refine(G.oK i v).congr (λj _=>?_);have hs:∀x,B.set (lM M q) i v x=lM (B.lay M q ((M q).set i v)) q x:=by
    intro x;unfold lM;rw[B.iB,cr,List.getElem?_set];by_cases y:x=i
    .simp_all[B.jN,bf]
    rw[B.iX _ _ _ _ y,au (λh=>y h.symm),cr]
   grind[eQ]
  rw[B.gh _ _ _ _ e];have u:f.b q≠f.b p:=λhe=>e (h.i q p a b W Z c Y he);have:=((h.s q a b c).off (o:=i*2) (v:=aj v.1) u).off (o:=i*2+1) (v:=aj v.2) u;refine this.congr (λj _=>?_);simp_all[eQ,lM,B.gh]
 .by_cases e:q=p
  .subst e;rw[B.iB];simpa using h.l q a
  rw[B.gh _ _ _ _ e];exact h.l q a
 grind[B.iB,B.gh,F.oW.k]
theorem yg(sb pb eb n nr k i:Nat)(x:Int)(v:B.V)(kd:B.Kd)(vb:Vs)(s:B.St)(w:aa)(hS:kD w sb pb eb n kd vb s.2.2)(hH:B.jO kd nr n s)(hn:n<=200)(hk:k<n)(hr:B.Reach nr s (k+1))(hi:i<(s.2.2 (k+1)).length): eL 160 #[P0 sb,vA (k+1,x),aj i,vA v] w λw'=>∃aE,kD w' sb pb eb n (B.told kd ((s.2.2 (k+1)).getD i (0,0))) aE (B.lay s.2.2 (k+1) ((s.2.2 (k+1)).set i v))/\dM (Own n kd vb) w w'/\pW n kd vb (B.told kd ((s.2.2 (k+1)).getD i (0,0))) aE w.heap.size/\aE.f=vb.f:=by
 have KS:=bj hS;have HH:=bj hH;have a6:=(B.mI hH hr).1;have h0:=hS.c0;have c2:=hS.cells.2.1;have ls:=ch hS.b;have lp:=hS.p.p.lt;have p2:=hS.p.p.cell (k*3+2) ag;rw[uu,a6]at p2;have aJ:qo true (vb.f.b (k+1)) (s.2.2 (k+1)).length=dA (vb.f.b (k+1)) (s.2.2 (k+1)).length (s.2.2 (k+1)).length:=rfl;rw[aJ]at p2;have hF:=hS.p.s (k+1) ag ag a6;have lf:=hF.lt;have HF:=bj hF;have aZ:=bj (nT k x ag);have bF:=hS.p.l _ a6;have HI:=bj (bh a6 hi);have b5:(k:Int)<(n:Int):=ag
 have bK:(i:Int)<((s.2.2 (k+1)).length:Int):=ag
 obtain⟨s0,f0⟩:=hF.cells (i*2) ag;obtain⟨s1,f1⟩:=hF.cells (i*2+1) ag;rw[ph]at s0;rw[pf]at s1;have aO:Hid ((lM s.2.2 (k+1) i)=(s.2.2 (k+1)).getD i (0,0)):=rfl;have aN:=B.uH hH hr i;have aT:=λh0=>(B.mI hH (aN.2 h0)).2.2;have aU:=bj aT;generalize b0:lM s.2.2 (k+1) i=o at *;have aH:=bj aO.out.symm;clear hS hH hr aJ hF aN aT b0 aO;generalize aM:(s.2.2 (k+1)).length=m at *;have aS:=bj aM;clear aM;delta eL;go_in;go_wp2_with fail
 generalize hW:(w.alloc (.cells #[aj ((k:Int)+1),aj x] 149)).alloc (.cells #[aj (v.1:Int),aj v.2] 149)=w1;have aF:Hid (w.grownBy w1 none):=by rw[<-hW];exact ax (ak _ _ _) _
 have aK:w1.heap[w.heap.size+1]? = some (.cells #[aj (v.1:Int),aj v.2] 149 (0,0)):=by
  rw[<-hW];have:=bl (w.alloc (.cells #[aj ((k:Int)+1),aj x] 149)) (.cells #[aj (v.1:Int),aj v.2] 149);simpa using this
 have a5:w1.heap[w.heap.size]? = some (.cells #[aj ((k:Int)+1),aj x] 149 (0,0)):=by
  rw[<-hW,av _ _ _ eB];exact bl w _
 clear hW;have b1:=bj aK;have a0:w1.cell? (ay w.heap.size 0)=some (aj ((k:Int)+1)):=fy a5
 have a1:w1.cell? (ay w.heap.size 1)=some (aj x):=fy a5
 have lv:=ch a5;have aG:sb<w1.heap.size:=ag
 have d0:=(bd aF.out (a:=ay sb 0) ls).1.trans h0;have b2:=bj p2;clear a5 aK h0 p2;go_cut [8] from 9 to 19 (λy wx=>y=.pointer (some (ay (vb.f.b (k+1)) (i*2)))/\Hid (w.grownBy wx none)/\Hid (wx.heap[w.heap.size+1]? = some (.cells #[aj (v.1:Int),aj v.2] 149 (0,0))))
 case first=>
  go_region_with (go_at_call 201;refine du (aZ.out _) λw2 Z=>?_;have a8:Hid (w1.grownBy w2 none):=⟨Z.os,Z.tape,Z.output,Z.size,Z.block⟩;have a4:=bj (ar aF.out a8.out);have d2:=(bd a8.out (a:=ay sb 0) aG).1.trans d0;have q2:=(bd a4.out (a:=ay pb (k*3+2)) lp).1.trans b2.out;clear Z)
  all_goals
   go_wp2_with fail
   go_meet
   case rel=>exact⟨rfl,a4,da a8.out b1.out im⟩
 case rest=>
  obtain⟨rfl,H,aC⟩:=hcut;have bA:=H.out.size;have e2:=(bd H.out (a:=ay sb 2) ls).1.trans c2;have t0:=(bd H.out (a:=ay (vb.f.b (k+1)) (i*2)) lf).1.trans s0;have t1:=(bd H.out (a:=ay (vb.f.b (k+1)) (i*2+1)) lf).1.trans s1;have z0:=(bd H.out (a:=ay (vb.f.b (k+1)) (i*2)) lf).2.trans f0;have z1:=(bd H.out (a:=ay (vb.f.b (k+1)) (i*2+1)) lf).2.trans f1;have aW:sb<wc.heap.size:=ag
  have a9:vb.f.b (k+1)<wc.heap.size:=ag
  have u0:wc.cell? (ay (w.heap.size+1) 0)=some (aj (v.1:Int)):=by have:=aC.out;simp[World.cell?,this]
  have u1:wc.cell? (ay (w.heap.size+1) 1)=some (aj v.2):=by have:=aC.out;simp[World.cell?,this]
  have lu:=ch aC.out;clear a0 a1 d0 c2 s0 s1 f0 f1;have u:=bj (KS.out.kept H.out);have aD:Own n kd vb (vb.f.b (k+1)):=af ⟨k+1,ag,ag,HI.out.1,rfl⟩;have Y:=bj aD;rcases hcy:kd.cy with _|c
  .rw[oa hcy]at e2;have G:=bj hcy;clear hcy aD;go_wp2_with fail
   go_end0;refine⟨rfl,vb,?_,bp (bp (ep H.out) (af Y.out) _) (af Y.out) _,?_,rfl⟩
   .rw[told_none _ G.out];have a2:=u.out.kI.2 _ Y.out;exact⟨((ab _ _ _ _ (λe=>a2.1 e.symm)).trans (ab _ _ _ _ (λe=>a2.1 e.symm))).trans u.out.b,A1 v u.out.p ag ag HI.out.1 (eV aS.out HI.out.2),λc hc=>by rw[G.out]at hc;cases hc⟩
   rw[told_none _ G.out];exact pW.refl _ _ _ _
  rw[n9 hcy]at e2;have G:=bj hcy;clear hcy aD;obtain⟨_,T,_,aQ⟩:=HH.out.h3 c G.out;have aA:=dU aQ.len hn;have aY:=bj (λw' (h:mV w' vb.cb vb.rd sb n vb.ad vb.cap c)=>sj vb.cb vb.rd sb n vb.ad vb.cap c o w' h (by have:=aU.out;rw[aH.out]at this;exact this) hn aA);have aX:Hid (mV wc.drew vb.cb vb.rd sb n vb.ad vb.cap c):=(u.out.c c G.out).block (λ_ _=>rfl);have a7:Hid (∀y,oT vb.cb vb.rd vb.ad y->Own n kd vb y):=λy hy=>ah ⟨jx G.out,hy⟩;have aI:=(tH u.out.p (u.out.c c G.out)).2 _ ag ag HI.out.1;have aR:¬oT vb.cb vb.rd vb.ad (w.heap.size+1):=λh=>by have:=KS.out.lt _ (a7.out _ h);omega
  have J:=bj (bh aI aR);have HK:Hid (∀w':aa,dM (oT vb.cb vb.rd vb.ad) wc.drew w'->w'.cell? (ay (vb.f.b (k+1)) (i*2))=some (aj (o.1:Int))/\w'.cell? (ay (vb.f.b (k+1)) (i*2+1))=some (aj o.2)/\w'.frozen? (ay (vb.f.b (k+1)) (i*2))=false/\w'.frozen? (ay (vb.f.b (k+1)) (i*2+1))=false/\w'.cell? (ay (w.heap.size+1) 0)=some (aj (v.1:Int))/\w'.cell? (ay (w.heap.size+1) 1)=some (aj v.2)/\vb.f.b (k+1)<w'.heap.size/\w.heap.size+1<w'.heap.size):=λw' hO=>by
   have W:dM (oT vb.cb vb.rd vb.ad) wc w':=hO;have:=W.size;exact⟨(W.cell a9 J.out.1).trans t0,(W.cell a9 J.out.1).trans t1,(W.frozen a9 J.out.1).trans z0,(W.frozen a9 J.out.1).trans z1,(W.cell lu J.out.2).trans u0,(W.cell lu J.out.2).trans u1,ag,ag⟩
  clear aQ aA aI aR;go_wp2_with fail
  go_region_with (go_at_call 188;refine du (aY.out _ aX.out) ?_;rintro w4 ⟨aP,aL,h4,h5,h6⟩;obtain⟨bJ,bB,bH,b9,bE,bG,bI,bD⟩:=HK.out w4 h6;have b4:=bj (bh h4 (bh h5 h6));clear h4 h5 h6)
  all_goals
   go_wp2_with fail
   go_end0;obtain⟨h4,h5,h6⟩:=b4.out;have a3:dM (oT vb.cb vb.rd vb.ad) wc w4:=h6;have b3:w4.heap[sb]? = _:=(a3.same aW (λh=>(KS.out.kI.2 sb (a7.out _ h)).1 rfl)).trans u.out.b;have a2:=KS.out.kI.2 _ Y.out;have aV:oW w4 pb n kd.on vb.f s.2.2:=by
    have:=tH u.out.p (u.out.c c G.out);exact u.out.p.block (a3.same u.out.p.p.lt this.1) (λp a b d=>a3.same (u.out.p.s p a b d).lt (this.2 p a b d))
   have aB:∀y,oT vb.cb vb.rd aP y->y≠vb.f.b (k+1):=λy hy e=>by
    rcases h4.J1 hy with h|h
    .exact J.out.1 (by rw[<-e];exact h)
    have h':wc.heap.size<=y:=h;omega
   refine⟨rfl,{ vb with ad:=aP,cap:=aL },?_,?_,?_,rfl⟩
   .rw[aH.out,BQ _ G.out];refine⟨?_,A1 v aV ag ag HI.out.1 (eV aS.out HI.out.2),λc' hc=>?_⟩
    .refine((ab _ _ _ _ (λe=>a2.1 e.symm)).trans (ab _ _ _ _ (λe=>a2.1 e.symm))).trans (b3.trans ?_);rw[n9 G.out];rfl
    have e:(⟨(B.seen c.m c.st o).1,(B.seen c.m c.st o).2,c.nx⟩:B.Cy)=c':=by injection hc
    subst e;exact h5.block (λy hy=>(ab _ _ _ _ (aB y hy)).trans (ab _ _ _ _ (aB y hy)))
   .refine bp (bp ((ep (S:=Own n kd vb) H.out).trans a3 (λy hy _=>a7.out y hy)) (af Y.out) _) (af Y.out) _
   intro y hy;rcases hy with⟨p,a,b,d,e⟩|⟨_,hy⟩
   .exact af (af ⟨p,a,b,d,e⟩)
   rcases h4.J1 hy with h|h
   .exact af (a7.out y h)
   have h':wc.heap.size<=y:=h;exact ah ag
