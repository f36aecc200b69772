import Derived.Test.YtnjiinbhbjpfkaaGreatDoorAf
set_option maxRecDepth 100000
set_option maxHeartbeats 0
set_option linter.all false
namespace Go.Proofs.YtnjiinbhbjpfkaaGreatDoor
open Go.RowKit Go.Proofs.Tryz
namespace D
open F
variable {p:dH}{d:Dp}{K:Nat}{s:Pl}{m m':Dm}{g g':Dg}{w w':aa}{ρ:Nat->Nat}
theorem Hf{mb rr nr a b c z cb nc cc sN sl ff mt lv t:Nat}{v1:Int}(hF:L4 w mb rr nr b c z cb nc cc sN sl v1 (ff:Int) (0,0) (0,0))(H77:∀w1,w.grownBy w1 none->dC 77 #[P0 mb] w1 (ah (lv:Int)) λw'=>w1.grownBy w' none)(h4:w.cell? (az mb 4)=some (ah (mt:Int)))(hm:mt<=lv):dC 227 #[P0 mb,ah (t:Int),dD rr nr nr,jC 15 a b c] w (ah 7) λw'=>w.grownBy w' none:=by
 have hF2:=OK (op:=15) (a:=a) hF;obtain⟨hb,hc,hzl,hzn,hr0,hr1,_,_,_,lr,lb,lc⟩:=hF;have hb2:(b:Int)<(nr:Int):=af
 have he1:rr<w.heap.size+1:=af
 have q1:IntKind.i64.wrap ((z:Int)+1-1)=(z:Int):=fm af;have q2:IntKind.i64.wrap (z:Int)=(z:Int):=jA
 have q3:(z:Int)<(nc:Int):=af
 have q4:(0:Int)<=(z:Int):=af
 have q5:(((z:Int)+1) == 0)=false:=lD dY
 change Hid _ at hF2 H77 h4;delta dC;go_in;go_wp2_with fail
 generalize (w.alloc<|.cells #[ah ((15:Nat):Int),ah (a:Int),ah (b:Int),ah (c:Int)] 90).alloc (.cells #[ah<|(z:Int)+1,ah v1] 115)=w2 at*;let⟨KG',i0,i1,i3,x0,d12,d0,d1,hs2⟩:=hF2.out;clear KG' hr0 hr1;go_quiet (fail)
 go_wp2_with fail
 clear i0 i1 i3 x0 d12 d0 d1 hs2;let⟨KG',i0,i1,i3,x0,d12,d0,d1,hs2⟩:=hF2.drewN nq;have KG:=bj KG';generalize w2.drewN nq=w3 at*;have lc2:cb<w3.heap.size:=an w3 _ d0;have lb2:mb<w3.heap.size:=an w3 _ d12;clear KG' hF2;go_cut[10] (λq wx=>∃X:Nat,q=.pointer (some<|az X 0)/\Hid (NY w3 wx X sN sl (ff:Int)))
 case first=>
  go_region
  all_goals
   go_wp2
   go_meet
   case rel=>exact⟨_,rfl,OJ _ _ _ _⟩
 case rest=>
  obtain⟨X,rfl,hF3⟩:=hcut;let⟨g3,v0,v1,hX⟩:=hF3.out;have o0:dW wc (fp w) 0=some (ah ((15:Nat):Int)):=(ay g3 (a:=az (fp w) 0) (by show w.heap.size<_;omega)).1.trans i0;have KG4:=bj<|ar KG.out g3;clear hF3 g3 i0 i1 i3 x0 d12 d0 d1 hX hs2 lc2 lb2 KG v0 v1;go_wp2_with fail
  refine dq (H77.out wc KG4.out) λw5 hg5=>?_;have KG5:=bj<|ar KG4.out hg5;have c4:dW w5 mb 4=some (ah (mt:Int)):=(ay KG5.out (a:=az mb 4) lb).1.trans h4.out;have hmi:(mt:Int)<=(lv:Int):=af
  clear hg5 o0;go_wp2
  go_ret;exact⟨rfl,KG5.out⟩
theorem Ex{mb rr nr a b c z cb nc cc sN sl ff mt lv t:Nat}{v1 qq:Int}{vc cy:B.V}{R:aa->Prop}(hF:L4 w mb rr nr b c z cb nc cc sN sl v1 (ff:Int) (0,0) (0,0))(ha:a<nr)(rc:lH w rr c vc)(rs:lH w sN 0 cy)(hsl:1<=sl)(hsl8:sl<=8)(H77:∀w1,w.grownBy w1 none->dC 77 #[P0 mb] w1 (ah (lv:Int)) λw'=>w1.grownBy w' none)(h4:w.cell? (az mb 4)=some (ah (mt:Int)))(hm:¬mt<=lv)(H47:∀w1,w.grownBy w1 none->dC 47 #[P0 mb,ah (ff:Int),vA vc,vA cy] w1 (ah qq) λw'=>R w'/\(∀j,w.heap.size<=j->j<w1.heap.size->w'.heap[j]?=w1.heap[j]?)/\∃va,lH w' rr a va):dC 227 #[P0 mb,ah (t:Int),dD rr nr nr,jC 15 a b c] w (ah 0) λw'=>∃w4,R w4/\(oR w4 rr a (0,qq)).grownBy w' none:=by
 have hF2:=OK (op:=15) (a:=a) hF;obtain⟨hb,hc,hzl,hzn,hr0,hr1,_,_,_,lr,lb,lc⟩:=hF;have ls:sN<w.heap.size:=an w _ rs.1;have hb2:(b:Int)<(nr:Int):=af
 have he1:rr<w.heap.size+1:=af
 have q1:IntKind.i64.wrap ((z:Int)+1-1)=(z:Int):=fm af;have q2:IntKind.i64.wrap (z:Int)=(z:Int):=jA
 have q3:(z:Int)<(nc:Int):=af
 have q4:(0:Int)<=(z:Int):=af
 have q5:(((z:Int)+1) == 0)=false:=lD dY
 have HF:=bj hF2;have HL:=bj H77;have HS:=bj H47;have H4:=bj h4;have HC:=bj rc;have HY:=bj rs;clear hF2 H77 h4 rc rs H47;delta dC;go_in;go_wp2_with fail
 generalize (w.alloc<|.cells #[ah ((15:Nat):Int),ah (a:Int),ah (b:Int),ah (c:Int)] 90).alloc (.cells #[ah<|(z:Int)+1,ah v1] 115)=w2 at*;obtain⟨KG',i0,i1,i3,x0,d12,d0,d1,hs2⟩:=HF.out;clear KG' hr0 hr1;go_quiet (fail)
 go_wp2_with fail
 clear i0 i1 i3 x0 d12 d0 d1 hs2;obtain⟨KG',i0,i1,i3,x0,d12,d0,d1,hs2⟩:=HF.out.drewN nq;have KG:=bj KG';generalize w2.drewN nq=w3 at*;have lc2:cb<w3.heap.size:=an w3 _ d0;have lb2:mb<w3.heap.size:=an w3 _ d12;clear KG' HF;go_cut[10] (λq wx=>∃X:Nat,q=.pointer (some<|az X 0)/\Hid (NY w3 wx X sN sl (ff:Int)))
 case first=>
  go_region
  all_goals
   go_wp2_with fail
   go_meet
   case rel=>exact⟨_,rfl,OJ _ _ _ _⟩
 case rest=>
  obtain⟨X,rfl,hF3⟩:=hcut;obtain⟨g3,v0,v1,hX⟩:=hF3.out;have o0:wc.cell? (az w.heap.size 0)=some (ah ((15:Nat):Int)):=(ay g3 (a:=az w.heap.size 0) (by show w.heap.size<_;omega)).1.trans i0;have o1:wc.cell? (az w.heap.size 1)=some (ah (a:Int)):=(ay g3 (a:=az w.heap.size 1) (by show w.heap.size<_;omega)).1.trans i1;have o3:wc.cell? (az w.heap.size 3)=some (ah (c:Int)):=(ay g3 (a:=az w.heap.size 3) (by show w.heap.size<_;omega)).1.trans i3;have KG4:=bj<|ar KG.out g3;have lw:w.heap.size<wc.heap.size:=gD g3.size
  have lX:X<wc.heap.size:=an wc _ v0;have hXw:w.heap.size<=X:=af
  have nXr:X≠rr:=af
  have nwr:w.heap.size≠rr:=af
  clear hF3 g3 i0 i1 i3 x0 d12 d0 d1 hX hs2 lc2 lb2 KG;have HO:=bj<|bh o1<|bh o3<|bh v0 v1;clear o1 o3 v0 v1;go_wp2_with fail
  refine dq (HL.out wc KG4.out) λw5 hg5=>?_;have KG5:=bj<|ar KG4.out hg5;have c4:w5.cell? (az mb 4)=some (ah (mt:Int)):=(ay KG5.out (a:=az mb 4) lb).1.trans H4.out;have hmi:¬((mt:Int)<=(lv:Int)):=af
  have HG5:=bj hg5;clear hg5 o0 HL;go_wp2_with fail
  obtain⟨o1,o3,v0,v1⟩:=HO.out;have u0:w5.cell? (az X 0)=some (dD sN sl sl):=(ay HG5.out (a:=az X 0) lX).1.trans v0;have u1:w5.cell? (az X 1)=some (ah (ff:Int)):=(ay HG5.out (a:=az X 1) lX).1.trans v1;have e1:w5.cell? (az w.heap.size 1)=some (ah (a:Int)):=(ay HG5.out (a:=az w.heap.size 1) lw).1.trans o1;have e3:w5.cell? (az w.heap.size 3)=some (ah (c:Int)):=(ay HG5.out (a:=az w.heap.size 3) lw).1.trans o3;have cc0:w5.cell? (az rr<|c*2)=some (ah (vc.1:Int)):=(ay KG5.out (a:=az rr<|c*2) lr).1.trans HC.out.1;have cc1:w5.cell? (az rr<|c*2+1)=some (ah vc.2):=(ay KG5.out (a:=az rr<|c*2+1) lr).1.trans HC.out.2.1;have yy0:w5.cell? (az sN 0)=some (ah (cy.1:Int)):=(ay KG5.out (a:=az sN 0) ls).1.trans HY.out.1;have yy1:w5.cell? (az sN 1)=some (ah cy.2):=(ay KG5.out (a:=az sN 1) ls).1.trans HY.out.2.1;have hc2:(c:Int)<(nr:Int):=af
  have ha2:(a:Int)<(nr:Int):=af
  have hs2:(0:Int)<(sl:Int):=af
  have hs3:0<sl:=af
  have hs4:sl≠0:=af
  have HSP:=bj<|HS.out w5.drew<|bo KG5.out;have lw5:w.heap.size<w5.drew.heap.size:=an w5 _ e1;have HK6:Hid (∀w6:aa,(∀j,w.heap.size<=j->j<w5.drew.heap.size->w6.heap[j]?=w5.drew.heap[j]?)->w6.cell? (az w.heap.size 1)=some (ah (a:Int))):=λw6 h6=>(bd (a:=az w.heap.size 1)<|h6 w.heap.size (bm _) lw5).trans e1;clear HO o1 o3 v0 v1 c4 hmi lX lw lw5 HG5 HS H4 HC HY q1 q2 q3 q4 q5 hzl hzn hb hb2 he1 KG4;go_cut[] (λwx=>Hid<|∃w6,R w6/\iY (oR w6 rr a (0,qq)) wx)
  case first=>
   have lX5:X<w5.heap.size:=an w5 _ u0;have ls5:sN<w5.heap.size:=an w5 _ yy0;have lz5:w.heap.size<w5.heap.size:=an w5 _ e1;have HSS:Hid (∀w':aa,w'.heap[X]?=w5.heap[X]?->w'.heap[w.heap.size]?=w5.heap[w.heap.size]?->(λw'=>w'.cell? (az X 0)=some (dD sN sl sl)/\w'.cell? (az X 1)=some (ah (ff:Int))/\w'.cell? (az w.heap.size 1)=some (ah (a:Int))/\w'.cell? (az w.heap.size 3)=some (ah (c:Int))) w'):=λw' h1 h2=>⟨(bd (a:=az X 0) h1).trans u0,(bd (a:=az X 1) h1).trans u1,(bd (a:=az w.heap.size 1) h2).trans e1,(bd (a:=az w.heap.size 3) h2).trans e3⟩;refine wp_region_held_drew (S:=(λw'=>w'.cell? (az X 0)=some (dD sN sl sl)/\w'.cell? (az X 1)=some (ah (ff:Int))/\w'.cell? (az w.heap.size 1)=some (ah (a:Int))/\w'.cell? (az w.heap.size 3)=some (ah (c:Int)))) eW (HSS.out _ rfl rfl)<|λhHeld=>?_;refine wpAnyH_take (i:=0) (v:=?v1) rfl eW eW eW (λ_ _ _ h=>h) (ag ⟨by rfl,?hy1⟩) qD ?rest1
   case hy1=>
    intro w' hSw;try dsimp only at hSw
    first|(go_simp;done)|(go_simp;with_reducible rfl)
   try simp only[Act.put,bp,cn,cr]
   refine wpAnyH_take (i:=1) (v:=?v2) rfl eW eW eW (λ_ _ _ h=>h) (ag ⟨by rfl,?hy2⟩) qD ?rest2
   case hy2=>
    intro w' hSw;try dsimp only at hSw
    first|(go_simp;done)|(go_simp;with_reducible rfl)
   try simp only[Act.put,bp,cn,cr]
   refine wpAnyH_take (i:=2) (v:=?v3) rfl eW eW eW (λ_ _ _ h=>h) (ag ⟨by rfl,?hy3⟩) qD ?rest3
   case hy3=>
    intro w' hSw;try dsimp only at hSw
    first|(go_simp;done)|(go_simp;with_reducible rfl)
   try simp only[Act.put,bp,cn,cr]
   refine wpAnyH_take (i:=3) (v:=?v4) rfl eW eW eW (λ_ _ _ h=>h) (ag ⟨by rfl,?hy4⟩) qD ?rest4
   case hy4=>
    intro w' hSw;try dsimp only at hSw
    first|(go_simp;done)|(go_simp;with_reducible rfl)
   try simp only[Act.put,bp,cn,cr]
   refine wpAnyH_take (i:=4) (v:=?v5) rfl eW eW eW (λ_ _ _ h=>h) (ag ⟨by rfl,?hy5⟩) qD ?rest5
   case hy5=>
    intro w' hSw;try dsimp only at hSw
    first|(go_simp;done)|(go_simp;with_reducible rfl)
   try simp only[Act.put,bp,cn,cr]
   refine wpAnyH_take (i:=5) (v:=?v6) rfl eW eW eW (λ_ _ _ h=>h) (ag ⟨by rfl,?hy6⟩) qD ?rest6
   case hy6=>
    intro w' hSw;try dsimp only at hSw
    first|(go_simp;done)|(go_simp;with_reducible rfl)
   try simp only[Act.put,bp,cn,cr]
   refine wpAnyH_take (i:=6) (v:=?v7) rfl eW eW eW (λ_ _ _ h=>h) (ag ⟨by rfl,?hy7⟩) qD ?rest7
   case hy7=>
    intro w' hSw;try dsimp only at hSw
    first|(go_simp;done)|(go_simp;with_reducible rfl)
   try simp only[Act.put,bp,cn,cr]
   refine wpAnyH_take (i:=7) (v:=?v8) rfl eW eW eW (λ_ _ _ h=>h) (ag ⟨by rfl,?hy8⟩) qD ?rest8
   case hy8=>
    intro w' hSw;try dsimp only at hSw
    first|(go_simp;done)|(go_simp;with_reducible rfl)
   try simp only[Act.put,bp,cn,cr]
   refine wpAnyH_take (i:=8) (v:=?v9) rfl eW eW eW (λ_ _ _ h=>h) (ag ⟨by rfl,?hy9⟩) qD ?rest9
   case hy9=>
    intro w' hSw;try dsimp only at hSw
    first|(go_simp;done)|(go_simp;with_reducible rfl)
   try simp only[Act.put,bp,cn,cr]
   refine wpAnyH_take (i:=9) (v:=?v10) rfl eW eW eW (λ_ _ _ h=>h) (ag ⟨by rfl,?hy10⟩) qD ?rest10
   case hy10=>
    intro w' hSw;try dsimp only at hSw
    first|(go_simp;done)|(go_simp;with_reducible rfl)
   try simp only[Act.put,bp,cn,cr]
   refine wpAnyH_take (i:=11) (v:=?v11) rfl eW eW eW (λ_ _ _ h=>h) (ag ⟨by rfl,?hy11⟩) qD ?rest11
   case hy11=>
    intro w' hSw;try dsimp only at hSw
    first|(go_simp;done)|(go_simp;with_reducible rfl)
   try simp only[Act.put,bp,cn,cr]
   refine wpAnyH_take (i:=12) (v:=?v12) rfl eW eW eW (λ_ _ _ h=>h) (ag ⟨by rfl,?hy12⟩) qD ?rest12
   case hy12=>
    intro w' hSw;try dsimp only at hSw
    first|(go_simp;done)|(go_simp;with_reducible rfl)
   try simp only[Act.put,bp,cn,cr]
   refine wpAnyH_take (i:=13) (v:=?v13) rfl eW eW eW (λ_ _ _ h=>h) (ag ⟨by rfl,?hy13⟩) qD ?rest13
   case hy13=>
    intro w' hSw;try dsimp only at hSw
    first|(go_simp;done)|(go_simp;with_reducible rfl)
   try simp only[Act.put,bp,cn,cr]
   refine wpAnyH_ready (rs:=[10,14]) eW eG ?_;refine AllReadyH.cons rfl (λK hK=>?way1) (AllReadyH.cons rfl (λK hK=>?way2) AllReadyH.nil)
   case way1=>
    go_simp
    refine hK.out _ _ ?hs14 (λhHeld=>?_)
    case hs14=>exact HSS.out _ rfl rfl
    clear hK K;try simp only[Act.put,bp,cn,cr]
    refine wpAnyH_ready (rs:=[14]) eW eG ?_;refine AllReadyH.cons rfl (λK hK=>?_) AllReadyH.nil;go_simp
    refine hK.out _ _ ?hs15 (λhHeld=>?_)
    case hs15=>exact HSS.out _ rfl rfl
    clear hK K;try simp only[Act.put,bp,cn,cr]
    refine wpAnyH_ready (rs:=[15]) eW eG ?_;refine AllReadyH.cons rfl (λK hK=>?_) AllReadyH.nil;go_simp
    refine dq HSP ?_;rintro w6 ⟨hR6,h6,va,a0,a1,a2,a3⟩;have k1:=HK6.out w6 h6;have b6:w6.heap[X]?=w5.heap[X]?:=h6 X hXw lX5;have b7:w6.heap[w.heap.size]?=w5.heap[w.heap.size]?:=h6 _ (bm _) lz5;have HR6:=bj hR6;clear hR6 h6;go_wp2_with fail
    refine hK.out _ _ ?hs16 (λhHeld=>?_)
    case hs16=>exact HSS.out _ b6 b7
    clear hK K;try simp only[Act.put,bp,cn,cr]
    refine wpAnyH_take (i:=16) (v:=?v17) rfl eW eW eW (λ_ _ _ h=>h) (ag ⟨by rfl,?hy17⟩) qD ?rest17
    case hy17=>
     intro w' hSw;try dsimp only at hSw
     first|(go_simp;done)|(go_simp;with_reducible rfl)
    try simp only[Act.put,bp,cn,cr]
    refine wpAnyH_take (i:=17) (v:=?v18) rfl eW eW eW (λ_ _ _ h=>h) (ag ⟨by rfl,?hy18⟩) qD ?rest18
    case hy18=>
     intro w' hSw;try dsimp only at hSw
     first|(go_simp;done)|(go_simp;with_reducible rfl)
    try simp only[Act.put,bp,cn,cr]
    refine wpAnyH_ready (rs:=[18]) eW eG ?_;refine AllReadyH.cons rfl (λK hK=>?_) AllReadyH.nil;go_simp
    refine hK.out _ _ ?hs19 (λhHeld=>?_)
    case hs19=>exact HSS.out _ ((ab _ _ _ _ nXr).trans<|(ab _ _ _ _ nXr).trans b6)<|(ab _ _ _ _ nwr).trans<|(ab _ _ _ _ nwr).trans b7
    clear hK K;try simp only[Act.put,bp,cn,cr]
    refine wpAnyH_done eW ?_ _;go_wp2_with fail
    go_meet
    case rel=>exact⟨w6,HR6.out,by first|exact aw _ _|exact bo<|aw _ _⟩
   case way2=>
    go_simp
    refine hK.out _ _ ?hs20 (λhHeld=>?_)
    case hs20=>exact HSS.out _ rfl rfl
    clear hK K;try simp only[Act.put,bp,cn,cr]
    refine wpAnyH_ready (rs:=[10]) eW eG ?_;refine AllReadyH.cons rfl (λK hK=>?_) AllReadyH.nil;go_simp
    refine hK.out _ _ ?hs21 (λhHeld=>?_)
    case hs21=>exact HSS.out _ rfl rfl
    clear hK K;try simp only[Act.put,bp,cn,cr]
    refine wpAnyH_ready (rs:=[15]) eW eG ?_;refine AllReadyH.cons rfl (λK hK=>?_) AllReadyH.nil;go_simp
    refine dq HSP ?_;rintro w6 ⟨hR6,h6,va,a0,a1,a2,a3⟩;have k1:=HK6.out w6 h6;have b6:w6.heap[X]?=w5.heap[X]?:=h6 X hXw lX5;have b7:w6.heap[w.heap.size]?=w5.heap[w.heap.size]?:=h6 _ (bm _) lz5;have HR6:=bj hR6;clear hR6 h6;go_wp2_with fail
    refine hK.out _ _ ?hs22 (λhHeld=>?_)
    case hs22=>exact HSS.out _ b6 b7
    clear hK K;try simp only[Act.put,bp,cn,cr]
    refine wpAnyH_take (i:=16) (v:=?v23) rfl eW eW eW (λ_ _ _ h=>h) (ag ⟨by rfl,?hy23⟩) qD ?rest23
    case hy23=>
     intro w' hSw;try dsimp only at hSw
     first|(go_simp;done)|(go_simp;with_reducible rfl)
    try simp only[Act.put,bp,cn,cr]
    refine wpAnyH_take (i:=17) (v:=?v24) rfl eW eW eW (λ_ _ _ h=>h) (ag ⟨by rfl,?hy24⟩) qD ?rest24
    case hy24=>
     intro w' hSw;try dsimp only at hSw
     first|(go_simp;done)|(go_simp;with_reducible rfl)
    try simp only[Act.put,bp,cn,cr]
    refine wpAnyH_ready (rs:=[18]) eW eG ?_;refine AllReadyH.cons rfl (λK hK=>?_) AllReadyH.nil;go_simp
    refine hK.out _ _ ?hs25 (λhHeld=>?_)
    case hs25=>exact HSS.out _ ((ab _ _ _ _ nXr).trans<|(ab _ _ _ _ nXr).trans b6)<|(ab _ _ _ _ nwr).trans<|(ab _ _ _ _ nwr).trans b7
    clear hK K;try simp only[Act.put,bp,cn,cr]
    refine wpAnyH_done eW ?_ _;go_wp2_with fail
    go_meet
    case rel=>exact⟨w6,HR6.out,by first|exact aw _ _|exact bo<|aw _ _⟩
  case rest=>
   have hcut':=hcut;clear hcut;go_wp2_with fail
   go_ret;obtain⟨w6,h6,hg⟩:=hcut'.out;exact⟨rfl,w6,h6,hg⟩
