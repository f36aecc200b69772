import Derived.Test.YtnjiinbhbjpfkaaGreatDoorKF
set_option maxRecDepth 100000
set_option maxHeartbeats 0
set_option linter.all false
namespace Go.Proofs.YtnjiinbhbjpfkaaGreatDoor
open Go.RowKit Go.Proofs.Tryz
section
theorem pL(k:Nat)(c:Array Value)(w:World):Calls prog 105 #[Fv k c] w λe w'=>e=.returned (Fv 163 #[P0 w.heap.size])/\w'=w.alloc (.cells #[Fv k c] 199):=by
 go_in;go_wp2
 go_ret;exact⟨rfl,rfl⟩
theorem Bi(k:Nat)(c:Array Value)(w:World):Calls prog 83 #[Fv k c] w λe w'=>e=.returned (Fv 163 #[P0 (w.heap.size+1)])/\w'=(w.alloc (.cells #[Fv k c] 187)).alloc (.cells #[Fv 148 #[P0 w.heap.size]] 199):=by
 go_in;go_wp2_with fail
 refine(pL _ _ _).mono ?_;rintro e w1 ⟨rfl,rfl⟩;go_wp2
 go_ret;exact⟨by simp,rfl⟩
theorem yT(k:Nat)(c:Array Value)(w:World):Calls prog 95 #[Fv k c] w λe w'=>e=.returned (Fv 163 #[P0 (w.heap.size+1)])/\w'=(w.alloc (.cells #[Fv k c] 193)).alloc (.cells #[Fv 153 #[P0 w.heap.size]] 199):=by
 go_in;go_wp2_with fail
 refine(pL _ _ _).mono ?_;rintro e w1 ⟨rfl,rfl⟩;go_wp2
 go_ret;exact⟨by simp,rfl⟩
theorem A4(k:Nat)(c:Array Value)(w:World):Calls prog 99 #[Fv k c] w λe w'=>e=.returned (Fv 163 #[P0 (w.heap.size+1)])/\w'=(w.alloc (.cells #[Fv k c] 195)).alloc (.cells #[Fv 155 #[P0 w.heap.size]] 199):=by
 go_in;go_wp2_with fail
 refine(pL _ _ _).mono ?_;rintro e w1 ⟨rfl,rfl⟩;go_wp2
 go_ret;exact⟨by simp,rfl⟩
theorem tY(k:Nat)(c:Array Value)(w:World):Calls prog 87 #[Fv k c] w λe w'=>e=.returned (Fv 151 #[P0 w.heap.size])/\w'=w.alloc (.cells #[Fv k c] 190):=by
 go_in;go_wp2
 go_ret;exact⟨rfl,rfl⟩
theorem AK(k k2:Nat)(c i:Array Value)(w:World):Calls prog 111 #[Fv k c,Fv k2 i] w λe w'=>e=.returned (Fv 167 #[P0 w.heap.size,P0 (w.heap.size+1)])/\w'=(w.alloc (.cells #[Fv k c] 187)).alloc (.cells #[Fv k2 i] 202):=by
 go_in;go_wp2
 go_ret;exact⟨by simp,rfl⟩
def rh(b:Nat):Array Value:=#[Fv 163 #[P0 (b+1)],Fv 163 #[P0 (b+3)],Fv 151 #[P0 (b+4)],Fv 151 #[P0 (b+5)],Fv 151 #[P0 (b+6)],Fv 151 #[P0 (b+7)],Fv 163 #[P0 (b+9)],Fv 163 #[P0 (b+11)],Fv 163 #[P0 (b+13)],Fv 163 #[P0 (b+15)],Fv 101 #[],Fv 102 #[],Fv 163 #[P0 (b+17)],Fv 104 #[],Fv 163 #[P0 (b+18)],Fv 108 #[],Fv 163 #[P0 (b+19)],Fv 167 #[P0 (b+20),P0 (b+21)],Fv 167 #[P0 (b+22),P0 (b+23)],Fv 167 #[P0 (b+24),P0 (b+25)],Fv 167 #[P0 (b+26),P0 (b+27)],Fv 167 #[P0 (b+28),P0 (b+29)],Fv 163 #[P0 (b+31)]]
def lQ(b:Nat):List (Value×TypeId):=[(Fv 84 #[],187),(Fv 148 #[P0 b],199),(Fv 86 #[],187),(Fv 148 #[P0 (b+2)],199),(Fv 88 #[],190),(Fv 89 #[],190),(Fv 90 #[],190),(Fv 91 #[],190),(Fv 93 #[],187),(Fv 148 #[P0 (b+8)],199),(Fv 96 #[],193),(Fv 153 #[P0 (b+10)],199),(Fv 97 #[],193),(Fv 153 #[P0 (b+12)],199),(Fv 100 #[],195),(Fv 155 #[P0 (b+14)],199),(Fv 103 #[],195),(Fv 155 #[P0 (b+16)],199),(Fv 106 #[],199),(Fv 109 #[],199),(Fv 98 #[],187),(Fv 112 #[],202),(Fv 86 #[],187),(Fv 113 #[],202),(Fv 98 #[],187),(Fv 114 #[],202),(Fv 98 #[],187),(Fv 115 #[],202),(Fv 86 #[],187),(Fv 116 #[],202),(Fv 117 #[],187),(Fv 148 #[P0 (b+30)],199)]
section
variable (k : Nat) (c : Array Value) (b : Nat) (w w0 : World) (l : List (Value × TypeId)) (h : Hid (w = iU w0 l)) (hz : Hid (w.heap.size = b))
theorem od(x y:Value×TypeId):((iU w0 l).alloc (.cells #[x.1] x.2)).alloc (.cells #[y.1] y.2)=iU w0 (l++[x,y]):=by
 induction l generalizing w0 with
 | nil=>rfl
 | cons z r e=>exact e _
theorem uz(x:Value×TypeId):(iU w0 l).alloc (.cells #[x.1] x.2)=iU w0 (l++[x]):=by
 induction l generalizing w0 with
 | nil=>rfl
 | cons z r e=>exact e _
include h hz
theorem rJ:Calls prog 83 #[Fv k c] w λe w'=>e=.returned (Fv 163 #[P0 (b+1)])/\Hid (w'=iU w0 (l++[(Fv k c,187),(Fv 148 #[P0 b],199)]))/\Hid (w'.heap.size=b+2):=by
 refine(Bi k c w).mono ?_;rintro e w' ⟨rfl,rfl⟩;have i:=hz.out;subst i;refine⟨rfl,?_,?_⟩
 .show _=_;rw[<-od,<-h.out]
 show _=_;simp
theorem xG:Calls prog 95 #[Fv k c] w λe w'=>e=.returned (Fv 163 #[P0 (b+1)])/\Hid (w'=iU w0 (l++[(Fv k c,193),(Fv 153 #[P0 b],199)]))/\Hid (w'.heap.size=b+2):=by
 refine(yT k c w).mono ?_;rintro e w' ⟨rfl,rfl⟩;have i:=hz.out;subst i;refine⟨rfl,?_,?_⟩
 .show _=_;rw[<-od,<-h.out]
 show _=_;simp
theorem zT:Calls prog 99 #[Fv k c] w λe w'=>e=.returned (Fv 163 #[P0 (b+1)])/\Hid (w'=iU w0 (l++[(Fv k c,195),(Fv 155 #[P0 b],199)]))/\Hid (w'.heap.size=b+2):=by
 refine(A4 k c w).mono ?_;rintro e w' ⟨rfl,rfl⟩;have i:=hz.out;subst i;refine⟨rfl,?_,?_⟩
 .show _=_;rw[<-od,<-h.out]
 show _=_;simp
theorem lA:Calls prog 87 #[Fv k c] w λe w'=>e=.returned (Fv 151 #[P0 b])/\Hid (w'=iU w0 (l++[(Fv k c,190)]))/\Hid (w'.heap.size=b+1):=by
 refine(tY k c w).mono ?_;rintro e w' ⟨rfl,rfl⟩;have i:=hz.out;subst i;refine⟨rfl,?_,?_⟩
 .show _=_;rw[<-uz,<-h.out]
 show _=_;simp
theorem DI:Calls prog 105 #[Fv k c] w λe w'=>e=.returned (Fv 163 #[P0 b])/\Hid (w'=iU w0 (l++[(Fv k c,199)]))/\Hid (w'.heap.size=b+1):=by
 refine(pL k c w).mono ?_;rintro e w' ⟨rfl,rfl⟩;have i:=hz.out;subst i;refine⟨rfl,?_,?_⟩
 .show _=_;rw[<-uz,<-h.out]
 show _=_;simp
theorem pa(k2:Nat)(i:Array Value):Calls prog 111 #[Fv k c,Fv k2 i] w λe w'=>e=.returned (Fv 167 #[P0 b,P0 (b+1)])/\Hid (w'=iU w0 (l++[(Fv k c,187),(Fv k2 i,202)]))/\Hid (w'.heap.size=b+2):=by
 refine(AK k k2 c i w).mono ?_;rintro e w' ⟨rfl,rfl⟩;have o:=hz.out;subst o;refine⟨rfl,?_,?_⟩
 .show _=_;rw[<-od,<-h.out]
 show _=_;simp
end
theorem xX(w:World):Calls prog 57 #[] w λe w'=>e=.returned (.agg (rh (w.heap.size+1)))/\∃w1,Hid (w1=iU (w.alloc (.cells (Array.replicate 23 Value.nilFunc) 133)) (lQ (w.heap.size+1)))/\w'=w1.setCells w.heap.size 0 (rh (w.heap.size+1)).toList:=by
 go_in;go_wp2_with fail
 have aH:Hid (w.alloc (.cells (Array.replicate 23 Value.nilFunc) 133)=iU (w.alloc (.cells (Array.replicate 23 Value.nilFunc) 133)) []):=rfl;have aW:Hid ((w.alloc (.cells (Array.replicate 23 Value.nilFunc) 133)).heap.size=w.heap.size+1):=by show _=_;simp
 refine(rJ 84 #[] _ _ _ _ aH aW).mono ?_;rintro e w1 ⟨rfl,aJ,aN⟩;clear aH aW;go_wp2_with fail
 refine(rJ 86 #[] _ _ _ _ aJ aN).mono ?_;rintro e w2 ⟨rfl,aE,aP⟩;clear aJ aN;go_wp2_with fail
 refine(lA 88 #[] _ _ _ _ aE aP).mono ?_;rintro e w3 ⟨rfl,aU,aM⟩;clear aE aP;go_wp2_with fail
 refine(lA 89 #[] _ _ _ _ aU aM).mono ?_;rintro e w4 ⟨rfl,aL,aV⟩;clear aU aM;go_wp2_with fail
 refine(lA 90 #[] _ _ _ _ aL aV).mono ?_;rintro e w5 ⟨rfl,aR,aF⟩;clear aL aV;go_wp2_with fail
 refine(lA 91 #[] _ _ _ _ aR aF).mono ?_;rintro e w6 ⟨rfl,aC,aG⟩;clear aR aF;go_wp2_with fail
 refine(rJ 93 #[] _ _ _ _ aC aG).mono ?_;rintro e w7 ⟨rfl,aO,aQ⟩;clear aC aG;go_wp2_with fail
 refine(xG 96 #[] _ _ _ _ aO aQ).mono ?_;rintro e w8 ⟨rfl,aI,aD⟩;clear aO aQ;go_wp2_with fail
 refine(xG 97 #[] _ _ _ _ aI aD).mono ?_;rintro e w9 ⟨rfl,aS,aT⟩;clear aI aD;go_wp2_with fail
 refine(zT 100 #[] _ _ _ _ aS aT).mono ?_;rintro e b7 ⟨rfl,J,a0⟩;clear aS aT;go_wp2_with fail
 refine(zT 103 #[] _ _ _ _ J a0).mono ?_;rintro e b4 ⟨rfl,a9,a1⟩;clear J a0;go_wp2_with fail
 refine(DI 106 #[] _ _ _ _ a9 a1).mono ?_;rintro e b6 ⟨rfl,u,a7⟩;clear a9 a1;go_wp2_with fail
 refine(DI 109 #[] _ _ _ _ u a7).mono ?_;rintro e b3 ⟨rfl,a3,a4⟩;clear u a7;go_wp2_with fail
 refine(pa 98 #[] _ _ _ _ a3 a4 112 #[]).mono ?_;rintro e b0 ⟨rfl,y,H⟩;clear a3 a4;go_wp2_with fail
 refine(pa 86 #[] _ _ _ _ y H 113 #[]).mono ?_;rintro e b2 ⟨rfl,Y,Z⟩;clear y H;go_wp2_with fail
 refine(pa 98 #[] _ _ _ _ Y Z 114 #[]).mono ?_;rintro e b1 ⟨rfl,a5,a8⟩;clear Y Z;go_wp2_with fail
 refine(pa 98 #[] _ _ _ _ a5 a8 115 #[]).mono ?_;rintro e b8 ⟨rfl,G,W⟩;clear a5 a8;go_wp2_with fail
 refine(pa 86 #[] _ _ _ _ G W 116 #[]).mono ?_;rintro e b5 ⟨rfl,a2,a6⟩;clear G W;go_wp2_with fail
 refine(rJ 117 #[] _ _ _ _ a2 a6).mono ?_;rintro e o ⟨rfl,i,aK⟩;clear a2 a6;simp only[];iterate 4 (first|go_values|go_skip|go_guarded|go_step|go_upon|go_back)
 have aB:o.there w.heap.size 0 (rh (w.heap.size+1)).size:=by
  have aX:o.heap[w.heap.size]? = some (.cells (Array.replicate 23 Value.nilFunc) 133 (0,0)):=by
   rw[i.out];exact((nM (lQ (w.heap.size+1)) (w.alloc (.cells (Array.replicate 23 Value.nilFunc) 133))).block _ (by simp)).trans (bf w _)
  exact jB.there (n:=23) (T:=133) ⟨_,aX,by simp⟩ 0 _ (by simp[rh])
 refine wpList_store_mid rfl 133 (.tmp 0) (.tmp 20) rfl w.heap.size 0 (rh (w.heap.size+1)) rfl rfl aB (by kernel_rfl) (by simp[rh,Value.oneCell']) ?_;have aZ:∃w5,w5=o.setCells w.heap.size 0 (rh (w.heap.size+1)).toList:=⟨_,rfl⟩;obtain⟨w5,aA⟩:=aZ;have aY:(loadVar 133 ⟨w.heap.size,0,none⟩).run prog w5=.ok (.agg (rh (w.heap.size+1))) w5:=by
  have:=run_loadVar_mid (P:=prog) w5 w.heap.size 0 133 (rh (w.heap.size+1)).toList _ (by rw[aA];exact World.rangeAt_setCells_same _ _ _ _ (by simpa using aB)) underlying133 rfl (by kernel_rfl);simpa using this
 rw[<-aA];have HQ:Hid (o=iU (w.alloc (.cells (Array.replicate 23 Value.nilFunc) 133)) (lQ (w.heap.size+1))):=i;clear i aK aB;go_wp2_with fail
 refine da (v:=.agg (rh (w.heap.size+1))) (u9 results57 _ rfl aY) rfl ⟨rfl,o,HQ,aA⟩
theorem BD(b:Nat)(w:World)(J:Hid (w.heap.size=b)):Calls prog 57 #[] w λe w'=>e=.returned (.agg #[Fv 163 #[P0 (b+2)],Fv 163 #[P0 (b+4)],Fv 151 #[P0 (b+5)],Fv 151 #[P0 (b+6)],Fv 151 #[P0 (b+7)],Fv 151 #[P0 (b+8)],Fv 163 #[P0 (b+10)],Fv 163 #[P0 (b+12)],Fv 163 #[P0 (b+14)],Fv 163 #[P0 (b+16)],Fv 101 #[],Fv 102 #[],Fv 163 #[P0 (b+18)],Fv 104 #[],Fv 163 #[P0 (b+19)],Fv 108 #[],Fv 163 #[P0 (b+20)],Fv 167 #[P0 (b+21),P0 (b+22)],Fv 167 #[P0 (b+23),P0 (b+24)],Fv 167 #[P0 (b+25),P0 (b+26)],Fv 167 #[P0 (b+27),P0 (b+28)],Fv 167 #[P0 (b+29),P0 (b+30)],Fv 163 #[P0 (b+32)]])/\Below w.heap.size w w'/\w'.heap.size=b+33/\∀k x,(lQ (b+1))[k]? = some x->w'.heap[b+1+k]? = some (.cells #[x.1] x.2 (0,0)):=by
 refine(xX w).mono ?_;rintro e w' ⟨rfl,w1,G,rfl⟩;have u:=J.out;subst u;have i:=nM (lQ (w.heap.size+1)) (w.alloc (.cells (Array.replicate 23 Value.nilFunc) 133));have hz:=yJ (lQ (w.heap.size+1)) (w.alloc (.cells (Array.replicate 23 Value.nilFunc) 133));rw[<-G.out]at i hz;have y:w1.heap.size=w.heap.size+33:=by rw[hz];simp[lQ]
 refine⟨rfl,?_,?_,?_⟩
 .have:w.grownBy (w1.setCells w.heap.size 0 (rh (w.heap.size+1)).toList) none:=gM _ _ _ _ _ (an (ah _ _ _) ⟨i.os,i.tape,i.output,i.size,λk o _=>i.block k o⟩) (bj _);exact⟨this.os,this.tape,this.output,this.size,λk o=>this.block k o (by intro e;cases e)⟩
 .rw[<-y];exact lK _ _ _ _
 intro k x H;rw[eU _ _ (by omega),G.out];have:=Da (lQ (w.heap.size+1)) (w.alloc (.cells (Array.replicate 23 Value.nilFunc) 133)) k x H;simpa using this
end
section
theorem Er(x y:Int)(w:World):Calls prog 89 #[.int .i64 x,.int .i64 y] w λe w'=>e=.returned (.int .i64 (B.wrap (x-y)))/\w'=w:=by
 have hw:IntKind.i64.wrap (x-y)=B.wrap (x-y):=by simp[IntKind.wrap,IntKind.bits,IntKind.signed,B.wrap];omega
 go_in;go_wp2_with fail
 go_ret;exact⟨by rw[<-hw];rfl,rfl⟩
theorem D0(op a b c fb tb eb cb L nx rb nr vb:Nat)(back:Value)(R:Nat->B.V)(ha:a<nr)(hb:b<nr)(hc:c<nr)(w:World)(hF:Fr w fb cb L nx rb nr back R)(hv:w.heap[vb]? = some (.cells #[Fv 89 #[]] 190 (0,0))): Calls prog 151 #[dZ op a b c fb tb eb,P0 vb] w λe w'=>(((R b).1=0/\(R c).1=0)/\e=.returned (.int .i64 0)/\w.grownBy w' (some rb)/\Fr w' fb cb L nx rb nr back (B.set R a (0,B.wrap ((R b).2-(R c).2))))\/(¬((R b).1=0/\(R c).1=0)/\e=.returned (.int .i64 1)/\w.grownBy w' none):=by
 have H:=az hF;have HV:=az hv;clear hF hv;go_in;go_wp2_with fail
 have a5:=az (jf w op a b c fb tb eb);have G:=az (ah w (.cells #[.int .u8 (op:Int),.int .u8 (a:Int),.int .u8 (b:Int),.int .u8 (c:Int),P0 fb,P0 tb,P0 eb] 186) none);refine(pO op a b c fb tb eb cb L nx rb nr back R _ (H.out.kept G.out).1 (H.out.kept G.out).2.1 hb).mono ?_;rintro e w1 ⟨rfl,a0⟩;have a6:=az (an G.out a0);have aA:=az (dp a0 a5.out);clear a0 a5 G;go_wp2_with fail
 refine(ft (R b) _).mono ?_;rintro e w2 ⟨rfl,a2⟩;have o:=az (an a6.out a2);have u:=az (dp a2 aA.out);clear a2 aA a6;obtain⟨x0,x1,x2,x3,x4,x5,x6⟩:=fk u.out;go_wp2_with fail
 refine(qJ op a b c fb tb eb cb L nx rb nr back R w2 (H.out.kept o.out).1 (H.out.kept o.out).2.1 hc).mono ?_;rintro e w3 ⟨rfl,Y⟩;have a7:=az (an o.out Y);have a8:=az (dp Y u.out);clear Y u o x0 x1 x2 x3 x4 x5 x6;go_wp2_with fail
 refine(ft (R c) _).mono ?_;rintro e w4 ⟨rfl,a1⟩;have i:=az (an a7.out a1);have a4:=az (dp a1 a8.out);clear a1 a8 a7;obtain⟨x0,x1,x2,x3,x4,x5,x6⟩:=fk a4.out;have lx:=bz a4.out;have Z:=dp i.out HV.out;have v5:w4.cell? ⟨vb,0,none⟩=some (Fv 89 #[]):=by simp[World.cell?,Z]
 clear Z;by_cases J:(R b).1=0
 .by_cases h2:(R c).1=0
  .have W:decide ((R b).1=0)=true:=by simpa using J
   have d2:decide ((R c).1=0)=true:=by simpa using h2
   simp only[W,d2];have HP:=az (ay J h2);clear J h2 W d2;generalize a3:B.wrap ((R b).2-(R c).2)=y;have hs:=Er (R b).2 (R c).2;rw[a3]at hs;have HS:=az hs;have aC:=az a3;clear hs a3;go_wp2_with fail
   go_region_with (first|(go_at_call 89;refine(HS.out _).mono ?_;rintro e w5 ⟨rfl,rfl⟩)|(go_at_call 61;refine(fH y _).mono ?_;rintro e w6 ⟨rfl,rfl⟩)|(go_at_call 149;refine(js op a b c fb tb eb cb L nx rb nr back R (0,y) _ (H.out.kept (by repeat (first|exact i.out|refine bq ?_|refine au ?_ _))).1 (H.out.kept (by repeat (first|exact i.out|refine bq ?_|refine au ?_ _))).2.1 ha).mono ?_;rintro e w7 ⟨rfl,aB,a9⟩))
   all_goals
    have hg:w.grownBy w7 (some rb):=an (by repeat (first|exact eD i.out|refine bq ?_|refine au ?_ _)) aB;have HH:=az (ay hg (ay (cm hg H.out.1 (by intro e;injection e with e;exact H.out.2.2 e)) a9));clear hg aB a9;go_wp2_with fail
    go_ret;exact ag ⟨HP.out,rfl,HH.out.1,HH.out.2.1,by rw[aC.out];exact HH.out.2.2,H.out.2.2⟩
  have W:decide ((R b).1=0)=true:=by simpa using J
  have d2:decide ((R c).1=0)=false:=by simpa using h2
  simp only[W,d2];have HP:=az (show ¬((R b).1=0/\(R c).1=0) from λh=>h2 h.2);clear J h2 W d2;go_wp2_with fail
  go_ret;exact ab ⟨HP.out,rfl,i.out⟩
 have W:decide ((R b).1=0)=false:=by simpa using J
 simp only[W];have HP:=az (show ¬((R b).1=0/\(R c).1=0) from λh=>J h.1);clear J W;go_wp2_with fail
 go_ret;exact ab ⟨HP.out,rfl,i.out⟩
