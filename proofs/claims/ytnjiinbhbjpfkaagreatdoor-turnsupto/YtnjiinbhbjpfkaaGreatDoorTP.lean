import Derived.Test.YtnjiinbhbjpfkaaGreatDoorTK
set_option maxRecDepth 100000
set_option maxHeartbeats 0
set_option linter.all false
namespace Go.Proofs.YtnjiinbhbjpfkaaGreatDoor
open Go.RowKit Go.Proofs.Tryz
section
theorem rq(k:Nat)(c:Array Value)(w:aa):dD 105 #[Fv k c] w (Fv 163 #[P0 w.heap.size]) λw'=>w'=w.alloc (.cells #[Fv k c] 199):=by
 delta dD;go_in;go_wp2
 go_ret;simp_all
theorem CJ(k:Nat)(c:Array Value)(w:aa):dD 83 #[Fv k c] w (Fv 163 #[P0 (w.heap.size+1)]) λw'=>w'=(w.alloc (.cells #[Fv k c] 187)).alloc (.cells #[Fv 148 #[P0 w.heap.size]] 199):=by
 delta dD;go_in;go_wp2_with fail
 refine du (rq _ _ _) ?_;rintro w1 rfl;go_wp2
 go_ret;simp_all
theorem As(k:Nat)(c:Array Value)(w:aa):dD 95 #[Fv k c] w (Fv 163 #[P0 (w.heap.size+1)]) λw'=>w'=(w.alloc (.cells #[Fv k c] 193)).alloc (.cells #[Fv 153 #[P0 w.heap.size]] 199):=by
 delta dD;go_in;go_wp2_with fail
 refine du (rq _ _ _) ?_;rintro w1 rfl;go_wp2
 go_ret;simp_all
theorem Ct(k:Nat)(c:Array Value)(w:aa):dD 99 #[Fv k c] w (Fv 163 #[P0 (w.heap.size+1)]) λw'=>w'=(w.alloc (.cells #[Fv k c] 195)).alloc (.cells #[Fv 155 #[P0 w.heap.size]] 199):=by
 delta dD;go_in;go_wp2_with fail
 refine du (rq _ _ _) ?_;rintro w1 rfl;go_wp2
 go_ret;simp_all
theorem vu(k:Nat)(c:Array Value)(w:aa):dD 87 #[Fv k c] w (Fv 151 #[P0 w.heap.size]) λw'=>w'=w.alloc (.cells #[Fv k c] 190):=by
 delta dD;go_in;go_wp2
 go_ret;simp_all
theorem BW(k k2:Nat)(c i:Array Value)(w:aa):dD 111 #[Fv k c,Fv k2 i] w (Fv 167 #[P0 w.heap.size,P0 (w.heap.size+1)]) λw'=>w'=(w.alloc (.cells #[Fv k c] 187)).alloc (.cells #[Fv k2 i] 202):=by
 delta dD;go_in;go_wp2
 go_ret;simp_all
def tw(b:Nat):Array Value:=#[Fv 163 #[P0 (b+1)],Fv 163 #[P0 (b+3)],Fv 151 #[P0 (b+4)],Fv 151 #[P0 (b+5)],Fv 151 #[P0 (b+6)],Fv 151 #[P0 (b+7)],Fv 163 #[P0 (b+9)],Fv 163 #[P0 (b+11)],Fv 163 #[P0 (b+13)],Fv 163 #[P0 (b+15)],Fv 101 #[],Fv 102 #[],Fv 163 #[P0 (b+17)],Fv 104 #[],Fv 163 #[P0 (b+18)],Fv 108 #[],Fv 163 #[P0 (b+19)],Fv 167 #[P0 (b+20),P0 (b+21)],Fv 167 #[P0 (b+22),P0 (b+23)],Fv 167 #[P0 (b+24),P0 (b+25)],Fv 167 #[P0 (b+26),P0 (b+27)],Fv 167 #[P0 (b+28),P0 (b+29)],Fv 163 #[P0 (b+31)]]
def nJ(b:Nat):List (Value×TypeId):=[(Fv 84 #[],187),(Fv 148 #[P0 b],199),(Fv 86 #[],187),(Fv 148 #[P0 (b+2)],199),(Fv 88 #[],190),(Fv 89 #[],190),(Fv 90 #[],190),(Fv 91 #[],190),(Fv 93 #[],187),(Fv 148 #[P0 (b+8)],199),(Fv 96 #[],193),(Fv 153 #[P0 (b+10)],199),(Fv 97 #[],193),(Fv 153 #[P0 (b+12)],199),(Fv 100 #[],195),(Fv 155 #[P0 (b+14)],199),(Fv 103 #[],195),(Fv 155 #[P0 (b+16)],199),(Fv 106 #[],199),(Fv 109 #[],199),(Fv 98 #[],187),(Fv 112 #[],202),(Fv 86 #[],187),(Fv 113 #[],202),(Fv 98 #[],187),(Fv 114 #[],202),(Fv 98 #[],187),(Fv 115 #[],202),(Fv 86 #[],187),(Fv 116 #[],202),(Fv 117 #[],187),(Fv 148 #[P0 (b+30)],199)]
section
variable (k:Nat)(c:Array Value)(b:Nat)(w w0:aa)(l:List (Value × TypeId))(h:Hid (w = jR w0 l))(hz:Hid (w.heap.size = b))
theorem pM(x y:Value×TypeId):((jR w0 l).alloc (.cells #[x.1] x.2)).alloc (.cells #[y.1] y.2)=jR w0 (l++[x,y]):=by
 induction l generalizing w0 with
 | nil=>rfl
 | cons z r e=>exact e _
theorem vU(x:Value×TypeId):(jR w0 l).alloc (.cells #[x.1] x.2)=jR w0 (l++[x]):=by
 induction l generalizing w0 with
 | nil=>rfl
 | cons z r e=>exact e _
include h hz
theorem tN:dD 83 #[Fv k c] w (Fv 163 #[P0 (b+1)]) λw'=>Hid (w'=jR w0 (l++[(Fv k c,187),(Fv 148 #[P0 b],199)]))/\Hid (w'.heap.size=b+2):=by
 refine du (CJ k c w) ?_;rintro w' rfl;have i:=hz.out;subst i;refine⟨rfl,?_,?_⟩
 .show _=_;rw[<-pM,<-h.out]
 simp_all
theorem yV:dD 95 #[Fv k c] w (Fv 163 #[P0 (b+1)]) λw'=>Hid (w'=jR w0 (l++[(Fv k c,193),(Fv 153 #[P0 b],199)]))/\Hid (w'.heap.size=b+2):=by
 refine du (As k c w) ?_;rintro w' rfl;have i:=hz.out;subst i;refine⟨rfl,?_,?_⟩
 .show _=_;rw[<-pM,<-h.out]
 simp_all
theorem Bb:dD 99 #[Fv k c] w (Fv 163 #[P0 (b+1)]) λw'=>Hid (w'=jR w0 (l++[(Fv k c,195),(Fv 155 #[P0 b],199)]))/\Hid (w'.heap.size=b+2):=by
 refine du (Ct k c w) ?_;rintro w' rfl;have i:=hz.out;subst i;refine⟨rfl,?_,?_⟩
 .show _=_;rw[<-pM,<-h.out]
 simp_all
theorem na:dD 87 #[Fv k c] w (Fv 151 #[P0 b]) λw'=>Hid (w'=jR w0 (l++[(Fv k c,190)]))/\Hid (w'.heap.size=b+1):=by
 refine du (vu k c w) ?_;rintro w' rfl;have i:=hz.out;subst i;refine⟨rfl,?_,?_⟩
 .show _=_;rw[<-vU,<-h.out]
 simp_all
theorem Fj:dD 105 #[Fv k c] w (Fv 163 #[P0 b]) λw'=>Hid (w'=jR w0 (l++[(Fv k c,199)]))/\Hid (w'.heap.size=b+1):=by
 refine du (rq k c w) ?_;rintro w' rfl;have i:=hz.out;subst i;refine⟨rfl,?_,?_⟩
 .show _=_;rw[<-vU,<-h.out]
 simp_all
theorem qJ(k2:Nat)(i:Array Value):dD 111 #[Fv k c,Fv k2 i] w (Fv 167 #[P0 b,P0 (b+1)]) λw'=>Hid (w'=jR w0 (l++[(Fv k c,187),(Fv k2 i,202)]))/\Hid (w'.heap.size=b+2):=by
 refine du (BW k k2 c i w) ?_;rintro w' rfl;have o:=hz.out;subst o;refine⟨rfl,?_,?_⟩
 .show _=_;rw[<-pM,<-h.out]
 simp_all
end
theorem zu(w:aa):dD 57 #[] w (.agg (tw (w.heap.size+1))) λw'=>∃w1,Hid (w1=jR (w.alloc (.cells (Array.replicate 23 Value.nilFunc) 133)) (nJ (w.heap.size+1)))/\w'=w1.setCells w.heap.size 0 (tw (w.heap.size+1)).toList:=by
 delta dD;go_in;go_wp2_with fail
 have aH:Hid (w.alloc (.cells (Array.replicate 23 Value.nilFunc) 133)=jR (w.alloc (.cells (Array.replicate 23 Value.nilFunc) 133)) []):=rfl;have aW:Hid ((w.alloc (.cells (Array.replicate 23 Value.nilFunc) 133)).heap.size=w.heap.size+1):=by show _=_;simp
 refine du (tN 84 #[] _ _ _ _ aH aW) ?_;rintro w1 ⟨aJ,aN⟩;clear aH aW;go_wp2_with fail
 refine du (tN 86 #[] _ _ _ _ aJ aN) ?_;rintro w2 ⟨aE,aP⟩;clear aJ aN;go_wp2_with fail
 refine du (na 88 #[] _ _ _ _ aE aP) ?_;rintro w3 ⟨aU,aM⟩;clear aE aP;go_wp2_with fail
 refine du (na 89 #[] _ _ _ _ aU aM) ?_;rintro w4 ⟨aL,aV⟩;clear aU aM;go_wp2_with fail
 refine du (na 90 #[] _ _ _ _ aL aV) ?_;rintro w5 ⟨aR,aF⟩;clear aL aV;go_wp2_with fail
 refine du (na 91 #[] _ _ _ _ aR aF) ?_;rintro w6 ⟨aC,aG⟩;clear aR aF;go_wp2_with fail
 refine du (tN 93 #[] _ _ _ _ aC aG) ?_;rintro w7 ⟨aO,aQ⟩;clear aC aG;go_wp2_with fail
 refine du (yV 96 #[] _ _ _ _ aO aQ) ?_;rintro w8 ⟨aI,aD⟩;clear aO aQ;go_wp2_with fail
 refine du (yV 97 #[] _ _ _ _ aI aD) ?_;rintro w9 ⟨aS,aT⟩;clear aI aD;go_wp2_with fail
 refine du (Bb 100 #[] _ _ _ _ aS aT) ?_;rintro b7 ⟨J,a0⟩;clear aS aT;go_wp2_with fail
 refine du (Bb 103 #[] _ _ _ _ J a0) ?_;rintro b4 ⟨a9,a1⟩;clear J a0;go_wp2_with fail
 refine du (Fj 106 #[] _ _ _ _ a9 a1) ?_;rintro b6 ⟨u,a7⟩;clear a9 a1;go_wp2_with fail
 refine du (Fj 109 #[] _ _ _ _ u a7) ?_;rintro b3 ⟨a3,a4⟩;clear u a7;go_wp2_with fail
 refine du (qJ 98 #[] _ _ _ _ a3 a4 112 #[]) ?_;rintro b0 ⟨y,H⟩;clear a3 a4;go_wp2_with fail
 refine du (qJ 86 #[] _ _ _ _ y H 113 #[]) ?_;rintro b2 ⟨Y,Z⟩;clear y H;go_wp2_with fail
 refine du (qJ 98 #[] _ _ _ _ Y Z 114 #[]) ?_;rintro b1 ⟨a5,a8⟩;clear Y Z;go_wp2_with fail
 refine du (qJ 98 #[] _ _ _ _ a5 a8 115 #[]) ?_;rintro b8 ⟨G,W⟩;clear a5 a8;go_wp2_with fail
 refine du (qJ 86 #[] _ _ _ _ G W 116 #[]) ?_;rintro b5 ⟨a2,a6⟩;clear G W;go_wp2_with fail
 refine du (tN 117 #[] _ _ _ _ a2 a6) ?_;rintro o ⟨i,aK⟩;clear a2 a6;simp only[];iterate 4 (first|go_values|go_skip|go_guarded|go_step|go_upon|go_back)
 have aB:o.there w.heap.size 0 (tw (w.heap.size+1)).size:=by
  have aX:o.heap[w.heap.size]? = some (.cells (Array.replicate 23 Value.nilFunc) 133 (0,0)):=by
   rw[i.out];exact((pt (nJ (w.heap.size+1)) (w.alloc (.cells (Array.replicate 23 Value.nilFunc) 133))).block _ eB).trans (bl w _)
  exact jF.there (n:=23) (T:=133) ⟨_,aX,eB⟩ 0 _ (by simp[tw])
 refine wpList_store_mid rfl 133 (.tmp 0) (.tmp 20) rfl w.heap.size 0 (tw (w.heap.size+1)) rfl rfl aB eX (by simp[tw,Value.oneCell']) ?_;have aZ:∃w5,w5=o.setCells w.heap.size 0 (tw (w.heap.size+1)).toList:=⟨_,rfl⟩;obtain⟨w5,aA⟩:=aZ;have aY:(loadVar 133 (ay w.heap.size 0)).run prog w5=.ok (.agg (tw (w.heap.size+1))) w5:=by
  have:=run_loadVar_mid (P:=prog) w5 w.heap.size 0 133 (tw (w.heap.size+1)).toList _ (by rw[aA];exact World.rangeAt_setCells_same _ _ _ _ (gG aB)) underlying133 rfl eX;simpa using this
 rw[<-aA];have HQ:Hid (o=jR (w.alloc (.cells (Array.replicate 23 Value.nilFunc) 133)) (nJ (w.heap.size+1))):=i;clear i aK aB;go_wp2
 refine dg (v:=.agg (tw (w.heap.size+1))) (wS results57 _ rfl aY) rfl ⟨rfl,o,HQ,aA⟩
theorem C4(b:Nat)(w:aa)(J:Hid (w.heap.size=b)):dD 57 #[] w (.agg #[Fv 163 #[P0 (b+2)],Fv 163 #[P0 (b+4)],Fv 151 #[P0 (b+5)],Fv 151 #[P0 (b+6)],Fv 151 #[P0 (b+7)],Fv 151 #[P0 (b+8)],Fv 163 #[P0 (b+10)],Fv 163 #[P0 (b+12)],Fv 163 #[P0 (b+14)],Fv 163 #[P0 (b+16)],Fv 101 #[],Fv 102 #[],Fv 163 #[P0 (b+18)],Fv 104 #[],Fv 163 #[P0 (b+19)],Fv 108 #[],Fv 163 #[P0 (b+20)],Fv 167 #[P0 (b+21),P0 (b+22)],Fv 167 #[P0 (b+23),P0 (b+24)],Fv 167 #[P0 (b+25),P0 (b+26)],Fv 167 #[P0 (b+27),P0 (b+28)],Fv 167 #[P0 (b+29),P0 (b+30)],Fv 163 #[P0 (b+32)]]) λw'=>Below w.heap.size w w'/\w'.heap.size=b+33/\∀k x,(nJ (b+1))[k]? = some x->w'.heap[b+1+k]? = some (.cells #[x.1] x.2 (0,0)):=by
 refine du (zu w) ?_;rintro w' ⟨w1,G,rfl⟩;have u:=J.out;subst u;have i:=pt (nJ (w.heap.size+1)) (w.alloc (.cells (Array.replicate 23 Value.nilFunc) 133));have hz:=Ah (nJ (w.heap.size+1)) (w.alloc (.cells (Array.replicate 23 Value.nilFunc) 133));rw[<-G.out]at i hz;have y:w1.heap.size=w.heap.size+33:=by rw[hz];simp[nJ]
 refine⟨rfl,?_,?_,?_⟩
 .have:w.grownBy (w1.setCells w.heap.size 0 (tw (w.heap.size+1)).toList) none:=iR _ _ _ _ _ (ar (ak _ _ _) ⟨i.os,i.tape,i.output,i.size,λk o _=>i.block k o⟩) (bq _);exact⟨this.os,this.tape,this.output,this.size,λk o=>this.block k o eR⟩
 .grind[nC]
 intro k x H;rw[fJ _ _ ag,G.out];have:=EH (nJ (w.heap.size+1)) (w.alloc (.cells (Array.replicate 23 Value.nilFunc) 133)) k x H;simp_all
