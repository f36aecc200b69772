import Derived.Test.YtnjiinbhbjpfkaaGreatDoorAO
set_option maxRecDepth 100000
set_option maxHeartbeats 0
set_option linter.all false
namespace Go.Proofs.YtnjiinbhbjpfkaaGreatDoor
open Go.RowKit Go.Proofs.Tryz
section
theorem ss(k:Nat)(c:Array Value)(w:aa):dC 105 #[Fv k c] w (Fv 163 #[P0 w.heap.size]) λw'=>w'=w.alloc (.cells #[Fv k c] 199):=by
 delta dC;go_in;go_wp2
 go_ret;simp_all
theorem Ds(k:Nat)(c:Array Value)(w:aa):dC 83 #[Fv k c] w (Fv 163 #[P0<|w.heap.size+1]) λw'=>w'=(w.alloc<|.cells #[Fv k c] 187).alloc (.cells #[Fv 148 #[P0 w.heap.size]] 199):=by
 delta dC;go_in;go_wp2_with fail
 refine dq (ss _ _ _) ?_;rintro w1 rfl;go_wp2
 go_ret;simp_all
theorem AY(k:Nat)(c:Array Value)(w:aa):dC 95 #[Fv k c] w (Fv 163 #[P0<|w.heap.size+1]) λw'=>w'=(w.alloc<|.cells #[Fv k c] 193).alloc (.cells #[Fv 153 #[P0 w.heap.size]] 199):=by
 delta dC;go_in;go_wp2_with fail
 refine dq (ss _ _ _) ?_;rintro w1 rfl;go_wp2
 go_ret;simp_all
theorem C7(k:Nat)(c:Array Value)(w:aa):dC 99 #[Fv k c] w (Fv 163 #[P0<|w.heap.size+1]) λw'=>w'=(w.alloc<|.cells #[Fv k c] 195).alloc (.cells #[Fv 155 #[P0 w.heap.size]] 199):=by
 delta dC;go_in;go_wp2_with fail
 refine dq (ss _ _ _) ?_;rintro w1 rfl;go_wp2
 go_ret;simp_all
theorem we(k:Nat)(c:Array Value)(w:aa):dC 87 #[Fv k c] w (Fv 151 #[P0 w.heap.size]) λw'=>w'=w.alloc (.cells #[Fv k c] 190):=by
 delta dC;go_in;go_wp2
 go_ret;simp_all
theorem Cz(k k2:Nat)(c i:Array Value)(w:aa):dC 111 #[Fv k c,Fv k2 i] w (Fv 167 #[P0 w.heap.size,P0<|w.heap.size+1]) λw'=>w'=(w.alloc<|.cells #[Fv k c] 187).alloc (.cells #[Fv k2 i] 202):=by
 delta dC;go_in;go_wp2
 go_ret;simp_all
def ue(b:Nat):Array Value:=#[Fv 163 #[P0<|b+1],Fv 163 #[P0<|b+3],Fv 151 #[P0<|b+4],Fv 151 #[P0<|b+5],Fv 151 #[P0<|b+6],Fv 151 #[P0<|b+7],Fv 163 #[P0<|b+9],Fv 163 #[P0<|b+11],Fv 163 #[P0<|b+13],Fv 163 #[P0<|b+15],Fv 101 #[],Fv 102 #[],Fv 163 #[P0<|b+17],Fv 104 #[],Fv 163 #[P0<|b+18],Fv 108 #[],Fv 163 #[P0<|b+19],Fv 167 #[P0<|b+20,P0<|b+21],Fv 167 #[P0<|b+22,P0<|b+23],Fv 167 #[P0<|b+24,P0<|b+25],Fv 167 #[P0<|b+26,P0<|b+27],Fv 167 #[P0<|b+28,P0<|b+29],Fv 163 #[P0<|b+31]]
def nZ(b:Nat):List (Value×TypeId):=[(Fv 84 #[],187),(Fv 148 #[P0 b],199),(Fv 86 #[],187),(Fv 148 #[P0<|b+2],199),(Fv 88 #[],190),(Fv 89 #[],190),(Fv 90 #[],190),(Fv 91 #[],190),(Fv 93 #[],187),(Fv 148 #[P0<|b+8],199),(Fv 96 #[],193),(Fv 153 #[P0<|b+10],199),(Fv 97 #[],193),(Fv 153 #[P0<|b+12],199),(Fv 100 #[],195),(Fv 155 #[P0<|b+14],199),(Fv 103 #[],195),(Fv 155 #[P0<|b+16],199),(Fv 106 #[],199),(Fv 109 #[],199),(Fv 98 #[],187),(Fv 112 #[],202),(Fv 86 #[],187),(Fv 113 #[],202),(Fv 98 #[],187),(Fv 114 #[],202),(Fv 98 #[],187),(Fv 115 #[],202),(Fv 86 #[],187),(Fv 116 #[],202),(Fv 117 #[],187),(Fv 148 #[P0<|b+30],199)]
section
variable (k:Nat)(c:Array Value)(b:Nat)(w w0:aa)(l:List (Value × TypeId))(h:Hid (w=km w0 l))(hz:Hid (w.heap.size=b))
theorem qs(x y:Value×TypeId):((km w0 l).alloc<|.cells #[x.1] x.2).alloc (.cells #[y.1] y.2)=km w0 (l++[x,y]):=by
 induction l generalizing w0 with
 |nil=>rfl
 |cons z r e=>exact e _
theorem wR(x:Value×TypeId):(km w0 l).alloc (.cells #[x.1] x.2)=km w0 (l++[x]):=by
 induction l generalizing w0 with
 |nil=>rfl
 |cons z r e=>exact e _
include h hz
theorem ur:dC 83 #[Fv k c] w (Fv 163 #[P0<|b+1]) λw'=>Hid (w'=km w0 (l++[(Fv k c,187),(Fv 148 #[P0 b],199)]))/\Hid (w'.heap.size=b+2):=by
 refine dq (Ds k c w) ?_;rintro w' rfl;have i:=hz.out;subst i;refine⟨rfl,?_,?_⟩
 .show _=_;rw[<-qs,<-h.out]
 simp_all
theorem zM:dC 95 #[Fv k c] w (Fv 163 #[P0<|b+1]) λw'=>Hid (w'=km w0 (l++[(Fv k c,193),(Fv 153 #[P0 b],199)]))/\Hid (w'.heap.size=b+2):=by
 refine dq (AY k c w) ?_;rintro w' rfl;have i:=hz.out;subst i;refine⟨rfl,?_,?_⟩
 .show _=_;rw[<-qs,<-h.out]
 simp_all
theorem BG:dC 99 #[Fv k c] w (Fv 163 #[P0<|b+1]) λw'=>Hid (w'=km w0 (l++[(Fv k c,195),(Fv 155 #[P0 b],199)]))/\Hid (w'.heap.size=b+2):=by
 refine dq (C7 k c w) ?_;rintro w' rfl;have i:=hz.out;subst i;refine⟨rfl,?_,?_⟩
 .show _=_;rw[<-qs,<-h.out]
 simp_all
theorem nL:dC 87 #[Fv k c] w (Fv 151 #[P0 b]) λw'=>Hid (w'=km w0 (l++[(Fv k c,190)]))/\Hid (w'.heap.size=b+1):=by
 refine dq (we k c w) ?_;rintro w' rfl;have i:=hz.out;subst i;refine⟨rfl,?_,?_⟩
 .show _=_;rw[<-wR,<-h.out]
 simp_all
theorem Gg:dC 105 #[Fv k c] w (Fv 163 #[P0 b]) λw'=>Hid (w'=km w0 (l++[(Fv k c,199)]))/\Hid (w'.heap.size=b+1):=by
 refine dq (ss k c w) ?_;rintro w' rfl;have i:=hz.out;subst i;refine⟨rfl,?_,?_⟩
 .show _=_;rw[<-wR,<-h.out]
 simp_all
theorem rm(k2:Nat)(i:Array Value):dC 111 #[Fv k c,Fv k2 i] w (Fv 167 #[P0 b,P0<|b+1]) λw'=>Hid (w'=km w0 (l++[(Fv k c,187),(Fv k2 i,202)]))/\Hid (w'.heap.size=b+2):=by
 refine dq (Cz k k2 c i w) ?_;rintro w' rfl;have o:=hz.out;subst o;refine⟨rfl,?_,?_⟩
 .show _=_;rw[<-qs,<-h.out]
 simp_all
end
theorem Ae(w:aa):dC 57 #[] w (.agg<|ue<|w.heap.size+1) λw'=>∃w1,Hid (w1=km (w.alloc<|.cells (Array.replicate 23 Value.nilFunc) 133) (nZ<|w.heap.size+1))/\w'=w1.setCells w.heap.size 0 (ue<|w.heap.size+1).toList:=by
 delta dC;go_in;go_wp2_with fail
 have aH:Hid (w.alloc (.cells (Array.replicate 23 Value.nilFunc) 133)=km (w.alloc<|.cells (Array.replicate 23 Value.nilFunc) 133) []):=rfl;have aW:Hid ((w.alloc<|.cells (Array.replicate 23 Value.nilFunc) 133).heap.size=w.heap.size+1):=by show _=_;simp
 refine dq (ur 84 #[] _ _ _ _ aH aW) ?_;rintro w1 ⟨aJ,aN⟩;clear aH aW;go_wp2_with fail
 refine dq (ur 86 #[] _ _ _ _ aJ aN) ?_;rintro w2 ⟨aE,aP⟩;clear aJ aN;go_wp2_with fail
 refine dq (nL 88 #[] _ _ _ _ aE aP) ?_;rintro w3 ⟨aU,aM⟩;clear aE aP;go_wp2_with fail
 refine dq (nL 89 #[] _ _ _ _ aU aM) ?_;rintro w4 ⟨aL,aV⟩;clear aU aM;go_wp2_with fail
 refine dq (nL 90 #[] _ _ _ _ aL aV) ?_;rintro w5 ⟨aR,aF⟩;clear aL aV;go_wp2_with fail
 refine dq (nL 91 #[] _ _ _ _ aR aF) ?_;rintro w6 ⟨aC,aG⟩;clear aR aF;go_wp2_with fail
 refine dq (ur 93 #[] _ _ _ _ aC aG) ?_;rintro w7 ⟨aO,aQ⟩;clear aC aG;go_wp2_with fail
 refine dq (zM 96 #[] _ _ _ _ aO aQ) ?_;rintro w8 ⟨aI,aD⟩;clear aO aQ;go_wp2_with fail
 refine dq (zM 97 #[] _ _ _ _ aI aD) ?_;rintro w9 ⟨aS,aT⟩;clear aI aD;go_wp2_with fail
 refine dq (BG 100 #[] _ _ _ _ aS aT) ?_;rintro b7 ⟨J,a0⟩;clear aS aT;go_wp2_with fail
 refine dq (BG 103 #[] _ _ _ _ J a0) ?_;rintro b4 ⟨a9,a1⟩;clear J a0;go_wp2_with fail
 refine dq (Gg 106 #[] _ _ _ _ a9 a1) ?_;rintro b6 ⟨u,a7⟩;clear a9 a1;go_wp2_with fail
 refine dq (Gg 109 #[] _ _ _ _ u a7) ?_;rintro b3 ⟨a3,a4⟩;clear u a7;go_wp2_with fail
 refine dq (rm 98 #[] _ _ _ _ a3 a4 112 #[]) ?_;rintro b0 ⟨y,H⟩;clear a3 a4;go_wp2_with fail
 refine dq (rm 86 #[] _ _ _ _ y H 113 #[]) ?_;rintro b2 ⟨Y,Z⟩;clear y H;go_wp2_with fail
 refine dq (rm 98 #[] _ _ _ _ Y Z 114 #[]) ?_;rintro b1 ⟨a5,a8⟩;clear Y Z;go_wp2_with fail
 refine dq (rm 98 #[] _ _ _ _ a5 a8 115 #[]) ?_;rintro b8 ⟨G,W⟩;clear a5 a8;go_wp2_with fail
 refine dq (rm 86 #[] _ _ _ _ G W 116 #[]) ?_;rintro b5 ⟨a2,a6⟩;clear G W;go_wp2_with fail
 refine dq (ur 117 #[] _ _ _ _ a2 a6) ?_;rintro o ⟨i,aK⟩;clear a2 a6;simp only[];iterate 4 (first|go_values|go_skip|go_guarded|go_step|go_upon|go_back)
 have aB:o.there w.heap.size 0 (ue<|w.heap.size+1).size:=by
  have aX:o.heap[w.heap.size]?=some (.cells (Array.replicate 23 Value.nilFunc) 133 (0,0)):=by
   rw[i.out];exact((pM (nZ<|w.heap.size+1)<|w.alloc<|.cells (Array.replicate 23 Value.nilFunc) 133).block _ eG).trans<|bl w _
  exact jQ.there (n:=23) (T:=133) ⟨_,aX,eG⟩ 0 _<|by simp[ue]
 refine wpList_store_mid rfl 133 (.tmp 0) (.tmp 20) rfl w.heap.size 0 (ue<|w.heap.size+1) rfl rfl aB eW (by simp[ue,Value.oneCell']) ?_;have aZ:∃w5,w5=o.setCells w.heap.size 0 (ue<|w.heap.size+1).toList:=⟨_,rfl⟩;obtain⟨w5,aA⟩:=aZ;have aY:(loadVar 133<|az w.heap.size 0).run prog w5=.ok (.agg<|ue<|w.heap.size+1) w5:=by
  have:=run_loadVar_mid (P:=prog) w5 w.heap.size 0 133 (ue<|w.heap.size+1).toList _ (by rw[aA];exact World.rangeAt_setCells_same _ _ _ _<|iE aB) underlying133 rfl eW;simpa using this
 rw[<-aA];have HQ:Hid (o=km (w.alloc<|.cells (Array.replicate 23 Value.nilFunc) 133) (nZ<|w.heap.size+1)):=i;clear i aK aB;go_wp2
 refine dg (v:=.agg<|ue<|w.heap.size+1) (xI results57 _ rfl aY) rfl ⟨rfl,o,HQ,aA⟩
theorem DP(b:Nat)(w:aa)(J:Hid (w.heap.size=b)):dC 57 #[] w (.agg #[Fv 163 #[P0<|b+2],Fv 163 #[P0<|b+4],Fv 151 #[P0<|b+5],Fv 151 #[P0<|b+6],Fv 151 #[P0<|b+7],Fv 151 #[P0<|b+8],Fv 163 #[P0<|b+10],Fv 163 #[P0<|b+12],Fv 163 #[P0<|b+14],Fv 163 #[P0<|b+16],Fv 101 #[],Fv 102 #[],Fv 163 #[P0<|b+18],Fv 104 #[],Fv 163 #[P0<|b+19],Fv 108 #[],Fv 163 #[P0<|b+20],Fv 167 #[P0<|b+21,P0<|b+22],Fv 167 #[P0<|b+23,P0<|b+24],Fv 167 #[P0<|b+25,P0<|b+26],Fv 167 #[P0<|b+27,P0<|b+28],Fv 167 #[P0<|b+29,P0<|b+30],Fv 163 #[P0<|b+32]]) λw'=>Below w.heap.size w w'/\w'.heap.size=b+33/\∀k x,(nZ<|b+1)[k]?=some x->w'.heap[b+1+k]?=some (.cells #[x.1] x.2 (0,0)):=by
 refine dq (Ae w) ?_;rintro w' ⟨w1,G,rfl⟩;have u:=J.out;subst u;have i:=pM (nZ<|w.heap.size+1)<|gG w (Array.replicate 23 Value.nilFunc) 133;have hz:=AO (nZ<|w.heap.size+1)<|gG w (Array.replicate 23 Value.nilFunc) 133;rw[<-G.out]at i hz;have y:w1.heap.size=w.heap.size+33:=by rw[hz];simp[nZ]
 refine⟨rfl,?_,?_,?_⟩
 .have:iY w (w1.setCells (fp w) 0 (ue<|w.heap.size+1).toList):=jb _ _ _ _ _ (ar (aj _ _ _) ⟨i.os,i.tape,i.output,i.size,λk o _=>i.block k o⟩)<|bm _;exact⟨this.os,this.tape,this.output,this.size,λk o=>this.block k o ey⟩
 .grind[nR]
 intro k x H;rw[fM _ _ af,G.out];have:=FD (nZ<|w.heap.size+1) (gG w (Array.replicate 23 Value.nilFunc) 133) k x H;simp_all
