import Derived.Test.YtnjiinbhbjpfkaaGreatDoorStpL
set_option maxRecDepth 100000
set_option maxHeartbeats 0
set_option linter.all false
namespace Go.Proofs.YtnjiinbhbjpfkaaGreatDoor
open Go.RowKit Go.Proofs.Tryz
section
theorem pL(k:Nat)(c:Array Value)(w:World):Calls prog 105 #[Fv k c] w λe w'=>e=.returned (Fv 163 #[P0 w.heap.size])/\w'=w.alloc (.cells #[Fv k c] 199):=by
 go_in;go_wp2
 go_ret;exact⟨rfl,rfl⟩
theorem Bi(k:Nat)(c:Array Value)(w:World):Calls prog 83 #[Fv k c] w λe w'=>e=.returned (Fv 163 #[P0 (w.heap.size+1)])/\w'=(w.alloc (.cells #[Fv k c] 187)).alloc (.cells #[Fv 148 #[P0 w.heap.size]] 199):=by
 go_in;go_wp2_with fail
 refine(pL _ _ _).mono ?_;rintro e w1 ⟨rfl,rfl⟩;go_wp2
 go_ret;exact⟨by simp,rfl⟩
theorem yT(k:Nat)(c:Array Value)(w:World):Calls prog 95 #[Fv k c] w λe w'=>e=.returned (Fv 163 #[P0 (w.heap.size+1)])/\w'=(w.alloc (.cells #[Fv k c] 193)).alloc (.cells #[Fv 153 #[P0 w.heap.size]] 199):=by
 go_in;go_wp2_with fail
 refine(pL _ _ _).mono ?_;rintro e w1 ⟨rfl,rfl⟩;go_wp2
 go_ret;exact⟨by simp,rfl⟩
theorem A4(k:Nat)(c:Array Value)(w:World):Calls prog 99 #[Fv k c] w λe w'=>e=.returned (Fv 163 #[P0 (w.heap.size+1)])/\w'=(w.alloc (.cells #[Fv k c] 195)).alloc (.cells #[Fv 155 #[P0 w.heap.size]] 199):=by
 go_in;go_wp2_with fail
 refine(pL _ _ _).mono ?_;rintro e w1 ⟨rfl,rfl⟩;go_wp2
 go_ret;exact⟨by simp,rfl⟩
theorem tY(k:Nat)(c:Array Value)(w:World):Calls prog 87 #[Fv k c] w λe w'=>e=.returned (Fv 151 #[P0 w.heap.size])/\w'=w.alloc (.cells #[Fv k c] 190):=by
 go_in;go_wp2
 go_ret;exact⟨rfl,rfl⟩
theorem AK(k k2:Nat)(c i:Array Value)(w:World):Calls prog 111 #[Fv k c,Fv k2 i] w λe w'=>e=.returned (Fv 167 #[P0 w.heap.size,P0 (w.heap.size+1)])/\w'=(w.alloc (.cells #[Fv k c] 187)).alloc (.cells #[Fv k2 i] 202):=by
 go_in;go_wp2
 go_ret;exact⟨by simp,rfl⟩
def rh(b:Nat):Array Value:=#[Fv 163 #[P0 (b+1)],Fv 163 #[P0 (b+3)],Fv 151 #[P0 (b+4)],Fv 151 #[P0 (b+5)],Fv 151 #[P0 (b+6)],Fv 151 #[P0 (b+7)],Fv 163 #[P0 (b+9)],Fv 163 #[P0 (b+11)],Fv 163 #[P0 (b+13)],Fv 163 #[P0 (b+15)],Fv 101 #[],Fv 102 #[],Fv 163 #[P0 (b+17)],Fv 104 #[],Fv 163 #[P0 (b+18)],Fv 108 #[],Fv 163 #[P0 (b+19)],Fv 167 #[P0 (b+20),P0 (b+21)],Fv 167 #[P0 (b+22),P0 (b+23)],Fv 167 #[P0 (b+24),P0 (b+25)],Fv 167 #[P0 (b+26),P0 (b+27)],Fv 167 #[P0 (b+28),P0 (b+29)],Fv 163 #[P0 (b+31)]]
def lQ(b:Nat):List (Value×TypeId):=[(Fv 84 #[],187),(Fv 148 #[P0 b],199),(Fv 86 #[],187),(Fv 148 #[P0 (b+2)],199),(Fv 88 #[],190),(Fv 89 #[],190),(Fv 90 #[],190),(Fv 91 #[],190),(Fv 93 #[],187),(Fv 148 #[P0 (b+8)],199),(Fv 96 #[],193),(Fv 153 #[P0 (b+10)],199),(Fv 97 #[],193),(Fv 153 #[P0 (b+12)],199),(Fv 100 #[],195),(Fv 155 #[P0 (b+14)],199),(Fv 103 #[],195),(Fv 155 #[P0 (b+16)],199),(Fv 106 #[],199),(Fv 109 #[],199),(Fv 98 #[],187),(Fv 112 #[],202),(Fv 86 #[],187),(Fv 113 #[],202),(Fv 98 #[],187),(Fv 114 #[],202),(Fv 98 #[],187),(Fv 115 #[],202),(Fv 86 #[],187),(Fv 116 #[],202),(Fv 117 #[],187),(Fv 148 #[P0 (b+30)],199)]
section
variable (k : Nat) (c : Array Value) (b : Nat) (w w0 : World) (l : List (Value × TypeId)) (h : Hid (w = iU w0 l)) (hz : Hid (w.heap.size = b))
theorem od(x y:Value×TypeId):((iU w0 l).alloc (.cells #[x.1] x.2)).alloc (.cells #[y.1] y.2)=iU w0 (l++[x,y]):=by
 induction l generalizing w0 with
 | nil=>rfl
 | cons z r e=>exact e _
theorem uz(x:Value×TypeId):(iU w0 l).alloc (.cells #[x.1] x.2)=iU w0 (l++[x]):=by
 induction l generalizing w0 with
 | nil=>rfl
 | cons z r e=>exact e _
include h hz
theorem rJ:Calls prog 83 #[Fv k c] w λe w'=>e=.returned (Fv 163 #[P0 (b+1)])/\Hid (w'=iU w0 (l++[(Fv k c,187),(Fv 148 #[P0 b],199)]))/\Hid (w'.heap.size=b+2):=by
 refine(Bi k c w).mono ?_;rintro e w' ⟨rfl,rfl⟩;have i:=hz.out;subst i;refine⟨rfl,?_,?_⟩
 .show _=_;rw[<-od,<-h.out]
 show _=_;simp
theorem xG:Calls prog 95 #[Fv k c] w λe w'=>e=.returned (Fv 163 #[P0 (b+1)])/\Hid (w'=iU w0 (l++[(Fv k c,193),(Fv 153 #[P0 b],199)]))/\Hid (w'.heap.size=b+2):=by
 refine(yT k c w).mono ?_;rintro e w' ⟨rfl,rfl⟩;have i:=hz.out;subst i;refine⟨rfl,?_,?_⟩
 .show _=_;rw[<-od,<-h.out]
 show _=_;simp
theorem zT:Calls prog 99 #[Fv k c] w λe w'=>e=.returned (Fv 163 #[P0 (b+1)])/\Hid (w'=iU w0 (l++[(Fv k c,195),(Fv 155 #[P0 b],199)]))/\Hid (w'.heap.size=b+2):=by
 refine(A4 k c w).mono ?_;rintro e w' ⟨rfl,rfl⟩;have i:=hz.out;subst i;refine⟨rfl,?_,?_⟩
 .show _=_;rw[<-od,<-h.out]
 show _=_;simp
theorem lA:Calls prog 87 #[Fv k c] w λe w'=>e=.returned (Fv 151 #[P0 b])/\Hid (w'=iU w0 (l++[(Fv k c,190)]))/\Hid (w'.heap.size=b+1):=by
 refine(tY k c w).mono ?_;rintro e w' ⟨rfl,rfl⟩;have i:=hz.out;subst i;refine⟨rfl,?_,?_⟩
 .show _=_;rw[<-uz,<-h.out]
 show _=_;simp
theorem DI:Calls prog 105 #[Fv k c] w λe w'=>e=.returned (Fv 163 #[P0 b])/\Hid (w'=iU w0 (l++[(Fv k c,199)]))/\Hid (w'.heap.size=b+1):=by
 refine(pL k c w).mono ?_;rintro e w' ⟨rfl,rfl⟩;have i:=hz.out;subst i;refine⟨rfl,?_,?_⟩
 .show _=_;rw[<-uz,<-h.out]
 show _=_;simp
theorem pa(k2:Nat)(i:Array Value):Calls prog 111 #[Fv k c,Fv k2 i] w λe w'=>e=.returned (Fv 167 #[P0 b,P0 (b+1)])/\Hid (w'=iU w0 (l++[(Fv k c,187),(Fv k2 i,202)]))/\Hid (w'.heap.size=b+2):=by
 refine(AK k k2 c i w).mono ?_;rintro e w' ⟨rfl,rfl⟩;have o:=hz.out;subst o;refine⟨rfl,?_,?_⟩
 .show _=_;rw[<-od,<-h.out]
 show _=_;simp
end
theorem xX(w:World):Calls prog 57 #[] w λe w'=>e=.returned (.agg (rh (w.heap.size+1)))/\∃w1,Hid (w1=iU (w.alloc (.cells (Array.replicate 23 Value.nilFunc) 133)) (lQ (w.heap.size+1)))/\w'=w1.setCells w.heap.size 0 (rh (w.heap.size+1)).toList:=by
 go_in;go_wp2_with fail
 have aH:Hid (w.alloc (.cells (Array.replicate 23 Value.nilFunc) 133)=iU (w.alloc (.cells (Array.replicate 23 Value.nilFunc) 133)) []):=rfl;have aW:Hid ((w.alloc (.cells (Array.replicate 23 Value.nilFunc) 133)).heap.size=w.heap.size+1):=by show _=_;simp
 refine(rJ 84 #[] _ _ _ _ aH aW).mono ?_;rintro e w1 ⟨rfl,aJ,aN⟩;clear aH aW;go_wp2_with fail
 refine(rJ 86 #[] _ _ _ _ aJ aN).mono ?_;rintro e w2 ⟨rfl,aE,aP⟩;clear aJ aN;go_wp2_with fail
 refine(lA 88 #[] _ _ _ _ aE aP).mono ?_;rintro e w3 ⟨rfl,aU,aM⟩;clear aE aP;go_wp2_with fail
 refine(lA 89 #[] _ _ _ _ aU aM).mono ?_;rintro e w4 ⟨rfl,aL,aV⟩;clear aU aM;go_wp2_with fail
 refine(lA 90 #[] _ _ _ _ aL aV).mono ?_;rintro e w5 ⟨rfl,aR,aF⟩;clear aL aV;go_wp2_with fail
 refine(lA 91 #[] _ _ _ _ aR aF).mono ?_;rintro e w6 ⟨rfl,aC,aG⟩;clear aR aF;go_wp2_with fail
 refine(rJ 93 #[] _ _ _ _ aC aG).mono ?_;rintro e w7 ⟨rfl,aO,aQ⟩;clear aC aG;go_wp2_with fail
 refine(xG 96 #[] _ _ _ _ aO aQ).mono ?_;rintro e w8 ⟨rfl,aI,aD⟩;clear aO aQ;go_wp2_with fail
 refine(xG 97 #[] _ _ _ _ aI aD).mono ?_;rintro e w9 ⟨rfl,aS,aT⟩;clear aI aD;go_wp2_with fail
 refine(zT 100 #[] _ _ _ _ aS aT).mono ?_;rintro e b7 ⟨rfl,J,a0⟩;clear aS aT;go_wp2_with fail
 refine(zT 103 #[] _ _ _ _ J a0).mono ?_;rintro e b4 ⟨rfl,a9,a1⟩;clear J a0;go_wp2_with fail
 refine(DI 106 #[] _ _ _ _ a9 a1).mono ?_;rintro e b6 ⟨rfl,u,a7⟩;clear a9 a1;go_wp2_with fail
 refine(DI 109 #[] _ _ _ _ u a7).mono ?_;rintro e b3 ⟨rfl,a3,a4⟩;clear u a7;go_wp2_with fail
 refine(pa 98 #[] _ _ _ _ a3 a4 112 #[]).mono ?_;rintro e b0 ⟨rfl,y,H⟩;clear a3 a4;go_wp2_with fail
 refine(pa 86 #[] _ _ _ _ y H 113 #[]).mono ?_;rintro e b2 ⟨rfl,Y,Z⟩;clear y H;go_wp2_with fail
 refine(pa 98 #[] _ _ _ _ Y Z 114 #[]).mono ?_;rintro e b1 ⟨rfl,a5,a8⟩;clear Y Z;go_wp2_with fail
 refine(pa 98 #[] _ _ _ _ a5 a8 115 #[]).mono ?_;rintro e b8 ⟨rfl,G,W⟩;clear a5 a8;go_wp2_with fail
 refine(pa 86 #[] _ _ _ _ G W 116 #[]).mono ?_;rintro e b5 ⟨rfl,a2,a6⟩;clear G W;go_wp2_with fail
 refine(rJ 117 #[] _ _ _ _ a2 a6).mono ?_;rintro e o ⟨rfl,i,aK⟩;clear a2 a6;simp only[];iterate 4 (first|go_values|go_skip|go_guarded|go_step|go_upon|go_back)
 have aB:o.there w.heap.size 0 (rh (w.heap.size+1)).size:=by
  have aX:o.heap[w.heap.size]? = some (.cells (Array.replicate 23 Value.nilFunc) 133 (0,0)):=by
   rw[i.out];exact((nM (lQ (w.heap.size+1)) (w.alloc (.cells (Array.replicate 23 Value.nilFunc) 133))).block _ (by simp)).trans (bf w _)
  exact jB.there (n:=23) (T:=133) ⟨_,aX,by simp⟩ 0 _ (by simp[rh])
 refine wpList_store_mid rfl 133 (.tmp 0) (.tmp 20) rfl w.heap.size 0 (rh (w.heap.size+1)) rfl rfl aB (by kernel_rfl) (by simp[rh,Value.oneCell']) ?_;have aZ:∃w5,w5=o.setCells w.heap.size 0 (rh (w.heap.size+1)).toList:=⟨_,rfl⟩;obtain⟨w5,aA⟩:=aZ;have aY:(loadVar 133 ⟨w.heap.size,0,none⟩).run prog w5=.ok (.agg (rh (w.heap.size+1))) w5:=by
  have:=run_loadVar_mid (P:=prog) w5 w.heap.size 0 133 (rh (w.heap.size+1)).toList _ (by rw[aA];exact World.rangeAt_setCells_same _ _ _ _ (by simpa using aB)) underlying133 rfl (by kernel_rfl);simpa using this
 rw[<-aA];have HQ:Hid (o=iU (w.alloc (.cells (Array.replicate 23 Value.nilFunc) 133)) (lQ (w.heap.size+1))):=i;clear i aK aB;go_wp2_with fail
 refine da (v:=.agg (rh (w.heap.size+1))) (u9 results57 _ rfl aY) rfl ⟨rfl,o,HQ,aA⟩
theorem BD(b:Nat)(w:World)(J:Hid (w.heap.size=b)):Calls prog 57 #[] w λe w'=>e=.returned (.agg #[Fv 163 #[P0 (b+2)],Fv 163 #[P0 (b+4)],Fv 151 #[P0 (b+5)],Fv 151 #[P0 (b+6)],Fv 151 #[P0 (b+7)],Fv 151 #[P0 (b+8)],Fv 163 #[P0 (b+10)],Fv 163 #[P0 (b+12)],Fv 163 #[P0 (b+14)],Fv 163 #[P0 (b+16)],Fv 101 #[],Fv 102 #[],Fv 163 #[P0 (b+18)],Fv 104 #[],Fv 163 #[P0 (b+19)],Fv 108 #[],Fv 163 #[P0 (b+20)],Fv 167 #[P0 (b+21),P0 (b+22)],Fv 167 #[P0 (b+23),P0 (b+24)],Fv 167 #[P0 (b+25),P0 (b+26)],Fv 167 #[P0 (b+27),P0 (b+28)],Fv 167 #[P0 (b+29),P0 (b+30)],Fv 163 #[P0 (b+32)]])/\Below w.heap.size w w'/\w'.heap.size=b+33/\∀k x,(lQ (b+1))[k]? = some x->w'.heap[b+1+k]? = some (.cells #[x.1] x.2 (0,0)):=by
 refine(xX w).mono ?_;rintro e w' ⟨rfl,w1,G,rfl⟩;have u:=J.out;subst u;have i:=nM (lQ (w.heap.size+1)) (w.alloc (.cells (Array.replicate 23 Value.nilFunc) 133));have hz:=yJ (lQ (w.heap.size+1)) (w.alloc (.cells (Array.replicate 23 Value.nilFunc) 133));rw[<-G.out]at i hz;have y:w1.heap.size=w.heap.size+33:=by rw[hz];simp[lQ]
 refine⟨rfl,?_,?_,?_⟩
 .have:w.grownBy (w1.setCells w.heap.size 0 (rh (w.heap.size+1)).toList) none:=gM _ _ _ _ _ (an (ah _ _ _) ⟨i.os,i.tape,i.output,i.size,λk o _=>i.block k o⟩) (bj _);exact⟨this.os,this.tape,this.output,this.size,λk o=>this.block k o (by intro e;cases e)⟩
 .rw[<-y];exact lK _ _ _ _
 intro k x H;rw[eU _ _ (by omega),G.out];have:=Da (lQ (w.heap.size+1)) (w.alloc (.cells (Array.replicate 23 Value.nilFunc) 133)) k x H;simpa using this
end
namespace F
def Fix(p:dz)(w:World):Prop:=∀b,p.fx b->w.heap[b]? = p.fc b
structure PW(p:dz):Prop where
 n1:1<=p.n
 n2:p.n<=200
 e0:p.E0 0=.slice (some ⟨p.gb,0,none⟩) p.nf p.nf
 e1:p.E0 1=.int .i64 p.qn
 e2:p.E0 2=.int .i64 p.wk
 e3:p.E0 3=.int .i64 p.mt
 Gd:p.E0 27=P0 p.sb
 gb:p.fx p.gb
 tab:∀w,Fix p w->∀f,f<p.nf->w.cell? ⟨p.gb,f*2,none⟩=some (.int .i64 (p.rg f))/\w.cell? ⟨p.gb,f*2+1,none⟩=some (.slice (some ⟨p.cb f,0,none⟩) (p.len f) (p.len f))
 rg:∀f,f<p.nf->2<=p.rg f/\p.rg f<=8
 ea:∀o,o<23->p.E0 (4+o)=(rh p.ac).getD o undef
 bx:∀w,Fix p w->∀j,j<32->w.cell? ⟨p.ac+j,0,none⟩=some ((lQ p.ac).getD j (undef,0)).1/\w.heap[p.ac+j]? = some (.cells #[((lQ p.ac).getD j (undef,0)).1] ((lQ p.ac).getD j (undef,0)).2 (0,0))
 cd:∀w,Fix p w->∀f,f<p.nf->p.cb f<w.heap.size/\∀i,i<p.len f->w.cell? ⟨p.cb f,i*4,none⟩=some (.int .u8 (p.ins f i).1)/\w.cell? ⟨p.cb f,i*4+1,none⟩=some (.int .u8 (p.ins f i).2.1)/\w.cell? ⟨p.cb f,i*4+2,none⟩=some (.int .u8 (p.ins f i).2.2.1)/\w.cell? ⟨p.cb f,i*4+3,none⟩=some (.int .u8 (p.ins f i).2.2.2)
 le:∀f,f<p.nf->p.len f<=200
theorem dQ.fix{p:dz}{s:Pl}{g:eE}{w:World}(h:dQ p s g w):Fix p w:=λb e=>(h.X b e).2
theorem DF{p:dz}{s:Pl}{g:eE}{w:World}{t f:Nat}{k:Fn}{ka kc:Array Value}(bk:Nat×Nat×Nat×Nat)(u v:B.V)(h:dQ p s g w)(hP:PW p)(ht:fe s t)(J:(s.T t).lf=none)(i:f<p.nf)(hm:(s.T t).fr.length<=1000)(H:.func k ka kc=wj p g t (s.T t).fr.length bk): Calls prog 119 #[P0 p.eb,P0 (g.tb t),.int .i64 f,vA u,vA v,.func k ka kc] w λe w'=>e=.returned (.tuple #[])/\∃fb rb r,Tr p s g w (s.push t ⟨f,0,gh u v,bk⟩) (g.push t (s.T t).fr.length fb rb r) w':=by
 have Z:=h.E;obtain⟨h1,h2⟩:=hP.tab w h.fix f i;have h0:w.cell? ⟨p.eb,0,none⟩=some (.slice (some ⟨p.gb,0,none⟩) p.nf p.nf):=by
  rw[Z.cell 0 (by omega)];show some (p.E0 0)=_;rw[hP.e0]
 refine(Hy p.eb (g.tb t) p.gb p.nf (p.cb f) (p.len f) (p.rg f) f (s.T t).fr.length (g.ro 12 t).2 (g.ro 12 t).1 _ k ka kc u v (gE p s g t) w h0 h1 h2 (h.tk ht) rfl (h.row (x:=12) (y:=t) (by unfold eQ;omega) (gG (by omega) ht)) hm Z.lt (h.X _ hP.gb).1 i (hP.rg f i).1 (hP.rg f i).2).mono ?_;rintro e w' ⟨rfl,Y,G,fb,rb,k1,k2,W,k4,k5,k6,k7⟩;refine⟨rfl,fb,rb,(some ⟨Y,0,none⟩,G),h.push (f:=⟨f,0,gh u v,bk⟩) ht J k1 k2 ?_ W.2.1 (k6.mono (λk o _=>?_)) k4 k5 (λk o=>?_)⟩
 .rw[<-H];exact W.1
 .rw[kF]at o;exact o
 have e:Y=k:=by injection o
 subst e;rw[kF]at k7;exact k7
def Pl.back(s:Pl)(t:Nat)(v:B.V):Pl:=if cr s t=0 then(s.pop t).leave t v 2 v.2 else(s.pop t).dx t (cr s t-1) ((de s t (cr s t-1)).set (de s t (cr s t)).bk.2.1 v)
theorem vm(s:Pl)(t u:Nat):((s.pop t).T u).wh=(s.T u).wh/\((s.pop t).T u).lf=(s.T u).lf:=by
 by_cases e:u=t
 .subst e;unfold Pl.pop;rw[df];exact⟨rfl,rfl⟩
 unfold Pl.pop;rw[dP _ _ e];exact⟨rfl,rfl⟩
theorem LW.pop{s:Pl}(h:LW s)(t:Nat):LW (s.pop t):=h.same rfl rfl (λu=>(vm s t u).1)
theorem WW.pop{p:dz}{s:Pl}(h:WW p s){t:Nat}(hw:(s.T t).wh=none):WW p (s.pop t):=by
 intro u G a b i o;rw[(vm s t u).1]at i;have e:u≠t:=λe=>by rw[e,hw]at i;cases i
 have y:(s.pop t).T u=s.T u:=dP _ _ e;have:=h u G a b i o;rw[gJ (s:=s) (by rw[y]),y];exact this
theorem rp(s:Pl)(t:Nat):((s.pop t).T t).fr.length=(s.T t).fr.length-1:=by unfold Pl.pop;rw[df];exact ef
theorem uC{p:dz}{s:Pl}{g:eE}{w:World}{t:Nat}(v:B.V)(h:dQ p s g w)(hW:LW s)(aB:WW p s)(ht:fe s t)(aG:(s.T t).lf=none)(aE:(s.T t).wh=none)(aA:(s.T t).fr≠[])(hm:(s.T t).fr.length<=1000)(aD:t∈s.lv)(a9:s.lv.Nodup)(aF:∀u,u∈s.lv->fe s u)(ho:s.out.length=s.nt)(hk:s.kp.length<=1000000)(aC:s.ev.length<=100000)(a8:cr s t≠0->(de s t (cr s t)).bk.2.1<p.rg (de s t (cr s t-1)).f): Calls prog 107 #[P0 (g.tb t),vA v] w λe w'=>e=.returned (.tuple #[])/\∃g',Tr p s g w (s.back t v) g' w':=by
 have a4:(s.T t).fr.length≠0:=λe=>aA (cf.1 e);obtain⟨m,a1⟩:∃m,(s.T t).fr.length=m+1:=⟨(s.T t).fr.length-1,by omega⟩;have H:cr s t=m:=by unfold cr;omega
 have hr:=h.row (x:=12) (y:=t) (by unfold eQ;omega) (gG (by omega) ht);have hF:=h.fr ht (i:=m) (by omega);obtain⟨kb,ck,he⟩:=dM hr (by rw[jb];exact a4);have a2:g.ro 12 t=(some ⟨kb,0,none⟩,ck):=by
  unfold sl at he;injection he with a b c;exact fV a c
 rw[he,jb,kr,a1,eA,eP,eP]at hr;have a7:gE p s g t 1=.slice (some ⟨kb,0,none⟩) (m+1) ck:=by
  show sl s g 12 t=_;rw[he,jb,a1]
 have G:∀w2,LG w w2 (g.tb t) kb ck m (((List.range m).map (g.fb t)).map P0) (gE p s g t)->Tr p s g w (s.pop t) g w2:=λw2 hp=>by
  obtain⟨k1,k2,k3⟩:=hp;refine h.pop ht aG a1 ?_ ?_ (k3.mono (λk hk _=>?_))
  .rw[a2];exact k1
  .rw[a2];exact k2
  rw[a2];exact hk.imp id (λe=>by rw[e];rfl)
 unfold Pl.back;rw[H];by_cases h0:m=0
 .rw[aj h0];have Y:wj p g t m (de s t m).bk=Fv 120 #[P0 (g.xe t),P0 (g.xt t)]:=by unfold wj;rw[aj h0]
  unfold yf at hF;rw[Y]at hF;refine uD (g.tb t) kb ck m (g.fb t m) _ _ _ _ _ _ v _ _ (ag ⟨g.xe t,g.xt t,rfl,rfl,rfl⟩) _ (gE p s g t) (λw'=>∃g',Tr p s g w ((s.pop t).leave t v 2 v.2) g' w') w (h.tk ht) a7 (by omega) hr hF ?_;intro w2 a0;have W:=G w2 a0;have o:fe (s.pop t) t:=ht;have a5:=W.r.xe o;have a3:=W.r.xt o;refine FH p.eb (g.tb t) (g.xe t) (g.xt t) v _ w2 (by simp[World.cell?,a5]) (by simp[World.cell?,a3]) (bz a5) (bz a3) ?_;intro w3 a6;refine(C9 v 2 v.2 (W.r.kept a6) (hW.pop t) (aB.pop aE) o aD a9 aF ho hk aC).mono ?_;rintro e w4 ⟨rfl,g',h4⟩;exact⟨rfl,g',(W.kept a6).trans h4⟩
 rw[aa h0];have Y:wj p g t m (de s t m).bk=.func (.func 149) #[dZ (de s t m).bk.1 (de s t m).bk.2.1 (de s t m).bk.2.2.1 (de s t m).bk.2.2.2 (g.fb t (m-1)) (g.tb t) p.eb] #[]:=by unfold wj;rw[aa h0]
 unfold yf at hF;rw[Y]at hF;refine uD (g.tb t) kb ck m (g.fb t m) _ _ _ _ _ _ v _ _ (ab ⟨_,_,_,_,g.fb t (m-1),p.eb,rfl,rfl,rfl⟩) _ (gE p s g t) (λw'=>∃g',Tr p s g w ((s.pop t).dx t (m-1) ((de s t (m-1)).set (de s t m).bk.2.1 v)) g' w') w (h.tk ht) a7 (by omega) hr hF ?_;intro w2 a0;have W:=G w2 a0;have o:fe (s.pop t) t:=ht;have J:de (s.pop t) t (m-1)=de s t (m-1):=oa s (λ_=>by omega);have hb:=a8 (by omega);rw[H]at hb;refine (wP (t:=t) (i:=m-1) (a:=(de s t m).bk.2.1) (de s t m).bk.1 (de s t m).bk.2.2.1 (de s t m).bk.2.2.2 (g.tb t) p.eb v W.r o (by rw[rp];omega) (by rw[J];exact hb)).mono ?_;rintro e w3 ⟨rfl,h3⟩;rw[J]at h3;exact⟨rfl,g,W.trans h3⟩
theorem JF{p:dz}{s:Pl}{g:eE}{w:World}{t why:Nat}(hw:why<=8)(h:dQ p s g w)(hW:LW s)(o:WW p s)(ht:fe s t)(G:t∈s.lv)(H:s.lv.Nodup)(J:∀u,u∈s.lv->fe s u)(Z:s.out.length=s.nt)(Y:s.kp.length<=1000000)(y:s.ev.length<=100000): Calls prog 187 #[P0 p.eb,P0 (g.tb t),.int .i64 why] w λe w'=>e=.returned (.tuple #[])/\∃g',Tr p s g w (s.leave t (0,-(why:Int)) 3 why) g' w':=by
 refine JH p.eb (g.tb t) why hw _ w (λw1 i=>?_);refine(C9 (0,-(why:Int)) 3 why (h.kept i) hW o ht G H J Z Y y).mono ?_;rintro e w2 ⟨rfl,g',W⟩;exact⟨rfl,g',W.ahead i⟩
end F
section
def IN(n:Int):Obj:=.cells #[.int .i64 n,.slice none 0 0,.bool false,.pointer none,.nilFunc,.int .i64 0,.slice none 0 0] 160 (0,0)
structure Ix(w w6:World) (eb tb xe xt no nl:Nat) (vo vl:Value) (ov:List B.V) (lv:List Value) (E:Nat->Value) (a30 a29:Option Addr) (c30 c29:Nat):Prop where
 e:Full w6 eb 144 44 44 (ep (ep E 30 (.slice a30 (no+1) c30)) 29 (.slice a29 (nl+1) c29))
 o:w6.ownsRow 0 149 2 (.slice a30 (no+1) c30) (no+1) (fT ov++[.int .i64 0,.int .i64 0])
 o2:jE w.heap.size vo (.slice a30 (no+1) c30)
 l:w6.ownsRow 0 155 1 (.slice a29 (nl+1) c29) (nl+1) (lv++[P0 tb])
 l2:jE w.heap.size vl (.slice a29 (nl+1) c29)
 l3:∀k,(Value.slice a29 (nl+1) c29).ownBlock=some k->k≠xt
 t:w6.heap[tb]? = some (IN ((no:Int)+1))
 x:w6.heap[xt]? = some (.cells #[P0 tb] 155 (0,0))
 y:w6.heap[xe]? = some (.cells #[P0 eb] 95 (0,0))
 n:w.heap.size<=tb/\w.heap.size<=xe/\w.heap.size<=xt
 s:dy (λk=>k=eb\/vo.ownBlock=some k\/vl.ownBlock=some k) w w6
theorem pB{a b:Nat}{v e:Value}(h:jE b v e)(i:a<=b):jE a v e:=h.imp id (λ⟨g,o,u⟩=>⟨g,o,by omega⟩)
theorem Il(eb f no i co cl num:Nat)(ao al:Option Addr)(u v:B.V)(ov:List B.V)(lv:List Value)(E:Nat->Value)(S:Nat->Nat->World->Prop)(R:World->Prop)(w:World)(hE:Full w eb 144 44 44 E)(c4:E 30=.slice ao no co)(bN:E 29=.slice al i cl)(ho:w.ownsRow 0 149 2 (.slice ao no co) no (fT ov))(hl:w.ownsRow 0 155 1 (.slice al i cl) i lv)(dG:no<=900000000)(d5:i<=900000000)(HE:∀Z tb xe xt cY cT aP aG,Ix w Z eb tb xe xt no i (.slice ao no co) (.slice al i cl) ov lv E cY cT aP aG->Calls prog 119 #[P0 eb,P0 tb,.int .i64 f,vA u,vA v,Fv 120 #[P0 xe,P0 xt]] Z λe w7=>e=.returned (.tuple #[])/\S tb xt w7/\w7.heap[xt]? = some (.cells #[P0 tb] 155 (0,0))/\w7.heap[xe]? = some (.cells #[P0 eb] 95 (0,0))/\eb<w7.heap.size)(HJ:∀tb xt w7 w8,S tb xt w7->w7.grownBy w8 none->Calls prog 110 #[Pt eb 32,P0 tb] w8 λe w9=>e=.returned (.tuple #[])/\R w9/\w9.cell? ⟨tb,0,none⟩=some (.int .i64 num)/\w9.heap[xt]? = some (.cells #[P0 tb] 155 (0,0))): Calls prog 60 #[P0 eb,.int .i64 f,vA u,vA v] w λe w'=>e=.returned (.int .i64 num)/\R w':=by
 have le:=hE.lt;have KE:=az hE;have HF:=az (ay c4 bN);have HO:=az ho;have HL:=az hl;have cV:=az HE;have cO:=az HJ;have bS:∀k,(Value.slice ao no co).ownBlock=some k->k≠eb/\k<w.heap.size:=λk W=>⟨eL ho hE (by decide) k W,(dA ho k W).2.1⟩;have c8:∀k,(Value.slice al i cl).ownBlock=some k->k≠eb/\k<w.heap.size:=λk W=>⟨eL hl hE (by decide) k W,(dA hl k W).2.1⟩;have aA:=az bS;have b8:=az c8;have cD:Hid (∀k,(Value.slice ao no co).ownBlock=some k->(Value.slice al i cl).ownBlock≠some k):=λk W cX=>by
  obtain⟨_,_,c1,e1⟩:=dA ho k W;obtain⟨_,_,c2,e2⟩:=dA hl k cX;rw[e1]at e2;injection e2 with e2;injection e2 with _ e2 _;exact ch e2 (by decide)
 clear hE c4 bN ho hl HE HJ bS c8;obtain⟨i0,hi,bM,bD,bW⟩:=info_parts Tryz.rE;go_in;go_wp2_with fail
 generalize hW:((w.alloc (.cells #[P0 eb] 95)).alloc (.cells #[.int .i64 (u.1:Int),.int .i64 u.2] 149)).alloc (.cells #[.int .i64 (v.1:Int),.int .i64 v.2] 149)=w1;have aU:w1.heap.size=w.heap.size+1+1+1:=by rw[<-hW];simp
 have a8:Hid (w.grownBy w1 none):=by rw[<-hW];repeat (first|exact ax _ _|refine au ?_ _)
 have x0:w1.heap[w.heap.size]? = some (.cells #[P0 eb] 95 (0,0)):=by rw[<-hW,ak _ _ _ (by simp;omega),ak _ _ _ (by simp)];exact bf _ _
 have x1:w1.heap[w.heap.size+1]? = some (.cells #[.int .i64 (u.1:Int),.int .i64 u.2] 149 (0,0)):=by
  rw[<-hW,ak _ _ _ (by simp)];have:=bf (w.alloc (.cells #[P0 eb] 95)) (.cells #[.int .i64 (u.1:Int),.int .i64 u.2] 149);simpa using this
 have x2:w1.heap[w.heap.size+1+1]? = some (.cells #[.int .i64 (v.1:Int),.int .i64 v.2] 149 (0,0)):=by
  rw[<-hW];have:=bf ((w.alloc (.cells #[P0 eb] 95)).alloc (.cells #[.int .i64 (u.1:Int),.int .i64 u.2] 149)) (.cells #[.int .i64 (v.1:Int),.int .i64 v.2] 149);simpa using this
 clear hW;have HX:=az (ay x0 (ay x1 x2));have b0:w1.cell? ⟨w.heap.size,0,none⟩=some (P0 eb):=by simp[World.cell?,x0]
 have aF:=az (KE.out.block (a8.out.block eb le (by intro e;cases e)));have bP:=az (dD HO.out (λk h=>a8.out.block k (aA.out k h).2 (by intro e;cases e)));obtain⟨aG,cH⟩:=aF.out.cells 30 (by omega);rw[HF.out.1]at aG;have aL:=aF.out.lt;have b5:w.heap.size<w1.heap.size:=by omega
 have bR:=az aU;clear aU x0 x1 x2;go_cut [] from 10 to 19 (λwx=>∃(ob:Option Addr) (H:Nat) (w2:World),wx=w2.setCell ⟨eb,30,none⟩ (.slice ob (no+1) H)/\Hid (w2.ownsRow 0 149 2 (.slice ob (no+1) H) (no+1) (fT ov++[.int .i64 0,.int .i64 0]))/\Hid (w1.grownBy w2 (Value.slice ao no co).ownBlock)/\Hid (jE w1.heap.size (.slice ao no co) (.slice ob (no+1) H)))
 case first=>
  go_region_law (first|(refine eS _ rfl (.tmp 14) (.tmp 16) 137 rfl 149 i0 _ 2 16 underlying137 hi bM bD bW rfl (by decide) ao no co (fT ov) (by first|rfl|simp[Act.eval,Act.put]) (dD bP.out (λk h=>(ak _ _ _ (by have h1:=(aA.out k h).2;omega)).trans (G.out.block k (by have h1:=(aA.out k h).2;omega) (by intro e;cases e)))) ⟨Y.heap.size,0,none⟩ 1 1 [.int .i64 0,.int .i64 0] (by first|rfl|simp[Act.eval,Act.put]) rfl (by intro j u hj;match j,hj with|0,hj=>(simp at hj;subst hj;simp[Addr.add,go_sem])|1,hj=>(simp at hj;subst hj;simp[Addr.add,go_sem])) (by simp[Value.oneCell']) (by unfold maxLen;omega) (by omega) (by decide) ?_;intro v' Z ho hg aE;obtain⟨ob,H,rfl⟩:=dM ho (by omega);have b7:=az ho;have aW:Hid (jE w1.heap.size (.slice ao no co) (.slice (some ⟨ob,0,none⟩) (no+1) H)):=pB aE (by have h1:=G.out.size;simp;omega);have a4:Hid (w1.grownBy Z (Value.slice ao no co).ownBlock):=⟨hg.os.trans G.out.os,hg.tape.trans G.out.tape,hg.output.trans G.out.output,by(have h1:=hg.size;have h2:=G.out.size;simp at h1;omega),λx hx hn=>(hg.block x (by(have:=G.out.size;simp;omega)) hn).trans ((ak _ _ _ (by have:=G.out.size;omega)).trans (G.out.block x hx (by intro e;cases e)))⟩;have aH:=az (aF.out.block (a4.out.block eb aL (λe=>(aA.out eb e.symm).1 rfl)));obtain⟨cP,d7⟩:=aH.out.cells 30 (by omega);have bY:=(aw (a:=⟨w.heap.size,0,none⟩) (a4.out.block w.heap.size b5 (λe=>by have:=(aA.out _ e.symm).2;omega))).trans b0;clear ho hg aE)|(go_simp;go_at_call 61;refine(fH 0 w1.drew).mono ?_;rintro e Y ⟨rfl,a6⟩;have G:Hid (w1.grownBy Y none):=(by subst a6;exact au (bq (ax _ _)) _);obtain⟨bZ,_⟩:=bh G.out (a:=⟨eb,30,none⟩) aL;rw[aG]at bZ;obtain⟨bY,_⟩:=bh G.out (a:=⟨w.heap.size,0,none⟩) b5;rw[b0]at bY;have bU:eb<Y.heap.size:=(by have:=G.out.size;omega);have bX:w.heap.size<Y.heap.size:=(by have:=G.out.size;omega);clear a6;simp only[]))
  all_goals
   go_wp2_with fail
   go_meet
   case rel=>exact⟨_,H,Z,rfl,b7,a4,aW⟩
 case rest=>
  obtain⟨ob,H,w2,rfl,b3,a7,bG⟩:=hcut;have aN:=az (aF.out.block (a7.out.block eb aL (λe=>(aA.out eb e.symm).1 rfl)));have bH:=a7.out.size;have bO:=a8.out.size;have a1:∀k,k<w1.heap.size->(Value.slice ao no co).ownBlock≠some k->w2.heap[k]? = w1.heap[k]?:=λk W hn=>a7.out.block k W (λe=>hn e.symm);have c3:Hid (dy (λk=>k=eb\/(Value.slice ao no co).ownBlock=some k\/(Value.slice al i cl).ownBlock=some k) w w2):=(dU a8.out).trans (S1:=λk=>(Value.slice ao no co).ownBlock=some k) ⟨a7.out.os,a7.out.tape,a7.out.output,a7.out.size,λk W hn=>a1 k W hn⟩ (λk h _=>ab (ag h));have aY:Hid (w2.ownsRow 0 155 1 (.slice al i cl) i lv):=dD HL.out (λk h=>(a1 k (by have:=(b8.out k h).2;omega) (λe=>cD.out k e h)).trans (a8.out.block k (b8.out k h).2 (by intro e;cases e)));have aR:∀k,w.heap.size<=k->(Value.slice ao no co).ownBlock≠some k:=λk W e=>by have:=(aA.out k e).2;omega
  generalize a6:w2.setCell ⟨eb,30,none⟩ (.slice ob (no+1) H)=Y at *;have cF:Y.heap.size=w2.heap.size:=by rw[<-a6];simp[World.setCell]
  have aB:∀k,k≠eb->Y.heap[k]? = w2.heap[k]?:=λk W=>by rw[<-a6];exact af _ _ _ _ W
  have aO:Hid (Full Y eb 144 44 44 (ep E 30 (.slice ob (no+1) H))):=by show Full _ _ _ _ _ _;rw[<-a6];exact aN.out.ep 30 _
  have bJ:Hid (dy (λk=>k=eb\/(Value.slice ao no co).ownBlock=some k\/(Value.slice al i cl).ownBlock=some k) w Y):=by show dy _ _ _;rw[<-a6];exact bm c3.out (ag (ag rfl)) _
  have b2:=az (dD b3.out (λk h=>aB k (eL b3.out aN.out (by decide) k h)));have b4:=az (dD aY.out (λk h=>aB k (eL aY.out aN.out (by decide) k h)));have bQ:=az (pB bG.out bO);have cN:=bR.out;have y0:=((aB w.heap.size (by omega)).trans (a1 w.heap.size (by omega) (aR _ (bj _)))).trans HX.out.1;have y1:=((aB (w.heap.size+1) (by omega)).trans (a1 (w.heap.size+1) (by omega) (aR _ (by omega)))).trans HX.out.2.1;have y2:=((aB (w.heap.size+1+1) (by omega)).trans (a1 (w.heap.size+1+1) (by omega) (aR _ (by omega)))).trans HX.out.2.2;have HY:=az (ay y0 (ay y1 y2));have b0:Y.cell? ⟨w.heap.size,0,none⟩=some (P0 eb):=by simp[World.cell?,y0]
  have bX:=bz y0;have bU:=aO.out.lt;have aP:=aO.out.cell 30 (by omega);rw[gf]at aP;have aT:w.heap.size+1+1+1<=Y.heap.size:=by omega
  clear a6 aB y0 y1 y2 aG cH cF bH aF aN a7 b3 HX b5 aL a8 bR a1 aY aR bG cN c3 bP bO;go_wp2_with fail
  generalize aI:(Y.alloc (.cells #[.int .i64 ((no:Int)+1),.slice none 0 0,.bool false,.pointer none,.nilFunc,.int .i64 0,.slice none 0 0] 160)).alloc (.cells #[.pointer (some ⟨Y.heap.size,0,none⟩)] 155)=w4;have J:Hid (Y.grownBy w4 none):=by rw[<-aI];exact au (ah _ _ _) _
  have c5:w4.heap[Y.heap.size]? = some (IN ((no:Int)+1)):=by rw[<-aI,ak _ _ _ (by simp)];exact bf _ _
  have aQ:w4.heap[Y.heap.size+1]? = some (.cells #[.pointer (some ⟨Y.heap.size,0,none⟩)] 155 (0,0)):=by
   rw[<-aI];have:=bf (Y.alloc (.cells #[.int .i64 ((no:Int)+1),.slice none 0 0,.bool false,.pointer none,.nilFunc,.int .i64 0,.slice none 0 0] 160)) (.cells #[.pointer (some ⟨Y.heap.size,0,none⟩)] 155);simpa using this
  have bI:w4.heap.size=Y.heap.size+1+1:=by rw[<-aI];simp
  clear aI;generalize cA:Y.heap.size=tb at *;have aX:=az (ay c5 aQ);have aD:=az (aO.out.block (J.out.block eb (by omega) (by intro e;cases e)));have aS:=az (dD b2.out (λk h=>J.out.block k (dA b2.out k h).2.1 (by intro e;cases e)));have aK:=az (dD b4.out (λk h=>J.out.block k (dA b4.out k h).2.1 (by intro e;cases e)));have bV:=az (bJ.out.gR J.out);have aC:=az (ay (dp J.out HY.out.1) (ay (dp J.out HY.out.2.1) (dp J.out HY.out.2.2)));have bC:w4.cell? ⟨w.heap.size,0,none⟩=some (P0 eb):=by simp[World.cell?,aC.out.1]
  have cR:w4.cell? ⟨tb+1,0,none⟩=some (P0 tb):=by simp[World.cell?,aQ]
  have c7:=bz aC.out.1;obtain⟨bK,cQ⟩:=aD.out.cells 29 (by omega);rw[eG _ _ _ _ (by omega),HF.out.2]at bK;have aV:=aD.out.lt;have cK:=az (ay bI (ay cA aT));clear c5 aQ b0 bX bU aP J b2 aO HY bI cA hi bM bD bW i0 b4 bJ aT;obtain⟨j0,hj,cB,c6,bT⟩:=info_parts Tryz.rA;have a5:=az b8.out;go_cut [] from 27 to 36 (λwx=>∃(lb:Option Addr) (a0:Nat) (w5:World),wx=w5.setCell ⟨eb,29,none⟩ (.slice lb (i+1) a0)/\Hid (w5.ownsRow 0 155 1 (.slice lb (i+1) a0) (i+1) (lv++[P0 tb]))/\Hid (w4.grownBy w5 (Value.slice al i cl).ownBlock)/\Hid (jE w4.heap.size (.slice al i cl) (.slice lb (i+1) a0)))
  case first=>
   go_region_law (refine eS _ rfl (.tmp 31) (.tmp 33) 136 rfl 155 j0 _ 1 8 underlying136 hj cB c6 bT rfl (by decide) al i cl lv (by first|rfl|simp[Act.eval,Act.put]) (dD aK.out (λk h=>ak _ _ _ (by have h1:=(dA aK.out k h).2.1;omega))) ⟨w4.heap.size,0,none⟩ 1 1 [P0 tb] (by first|rfl|simp[Act.eval,Act.put]) rfl (by intro j u hj;match j,hj with|0,hj=>(simp at hj;subst hj;simp[Addr.add,go_sem])) (by simp[Value.oneCell']) (by unfold maxLen;omega) (by omega) (by decide) ?_;intro v' Z ho hg aE;obtain⟨lb,a0,rfl⟩:=dM ho (by omega);have b7:=az ho;have aW:Hid (jE w4.heap.size (.slice al i cl) (.slice (some ⟨lb,0,none⟩) (i+1) a0)):=pB aE (by simp);have a4:Hid (w4.grownBy Z (Value.slice al i cl).ownBlock):=⟨hg.os,hg.tape,hg.output,by(have h1:=hg.size;simp at h1;omega),λx hx hn=>(hg.block x (by simp;omega) hn).trans (ak _ _ _ hx)⟩;have aH:=az (aD.out.block (a4.out.block eb aV (λe=>(a5.out eb e.symm).1 rfl)));obtain⟨cC,d9⟩:=aH.out.cells 29 (by omega);have d2:=(aw (a:=⟨w.heap.size,0,none⟩) (a4.out.block w.heap.size c7 (λe=>by have:=(a5.out _ e.symm).2;omega))).trans bC;clear ho hg aE)
   all_goals
    go_wp2_with fail
    go_meet
    case rel=>exact⟨_,a0,Z,rfl,b7,a4,aW⟩
  case rest=>
   obtain⟨lb,a0,w5,rfl,bA,a3,b9⟩:=hcut;have bB:=az (aD.out.block (a3.out.block eb aV (λe=>(a5.out eb e.symm).1 rfl)));have bE:=cK.out;generalize aM:w5.setCell ⟨eb,29,none⟩ (.slice lb (i+1) a0)=Z at *;have b6:∀k,k≠eb->Z.heap[k]? = w5.heap[k]?:=λk W=>by rw[<-aM];exact af _ _ _ _ W
   have a9:∀{k:Nat} {o:Obj},w4.heap[k]? = some o->k≠eb->(Value.slice al i cl).ownBlock≠some k->Z.heap[k]? = some o:=λW h1 h2=>((b6 _ h1).trans (a3.out.block _ (bz W) (λe=>h2 e.symm))).trans W;have a2:∀k,w.heap.size<=k->(Value.slice al i cl).ownBlock≠some k:=λk W e=>by have:=(a5.out k e).2;omega
   have HB:Hid (Ix w Z eb tb w.heap.size (tb+1) no i (.slice ao no co) (.slice al i cl) ov lv E ob lb H a0):=by
    refine⟨?_,?_,bQ.out,?_,pB b9.out (by omega),?_,?_,?_,?_,⟨by omega,bj _,by omega⟩,?_⟩
    .rw[<-aM];exact bB.out.ep 29 _
    .refine dD aS.out (λk h=>?_);obtain⟨_,l4,dB,hc⟩:=dA aS.out k h;rw[hc];refine a9 hc (eL aS.out aD.out (by decide) k h) (λe=>?_);obtain⟨_,_,c2,e2⟩:=dA aK.out k e;rw[hc]at e2;injection e2 with e2;injection e2 with _ e2 _;exact ch e2 (by decide)
    .exact dD bA.out (λk h=>b6 k (eL bA.out bB.out (by decide) k h))
    .intro k W;rcases b9.out with e|⟨g',e,dE⟩
     .rw[W]at e;have:=(a5.out k e.symm).2;omega
     rw[W]at e;injection e with e;omega
    .exact a9 aX.out.1 (by omega) (a2 _ (by omega))
    .exact a9 aX.out.2 (by omega) (a2 _ (by omega))
    .exact a9 aC.out.1 (by omega) (a2 _ (bj _))
    rw[<-aM];refine bm (bV.out.trans (S1:=λk=>(Value.slice al i cl).ownBlock=some k) ⟨a3.out.os,a3.out.tape,a3.out.output,a3.out.size,λk W hn=>a3.out.block k W (λe=>hn e.symm)⟩ (λk h _=>ab (ab h))) (ag (ag rfl)) _
   have q1:=a9 aC.out.2.1 (by omega) (a2 _ (by omega));have q2:=a9 aC.out.2.2 (by omega) (a2 _ (by omega));have p0:Z.cell? ⟨w.heap.size,0,none⟩=some (P0 eb):=by have:=HB.out.y;simp[World.cell?,this]
   have p1:Z.cell? ⟨tb+1,0,none⟩=some (P0 tb):=by have:=HB.out.x;simp[World.cell?,this]
   have p2:Z.cell? ⟨w.heap.size+1,0,none⟩=some (.int .i64 (u.1:Int)):=by simp[World.cell?,q1]
   have p3:Z.cell? ⟨w.heap.size+1,1,none⟩=some (.int .i64 u.2):=by simp[World.cell?,q1]
   have p4:Z.cell? ⟨w.heap.size+1+1,0,none⟩=some (.int .i64 (v.1:Int)):=by simp[World.cell?,q2]
   have p5:Z.cell? ⟨w.heap.size+1+1,1,none⟩=some (.int .i64 v.2):=by simp[World.cell?,q2]
   clear aM b6 a9 bC cR c7 bK cQ aV aS bA aD bB a3 aX aC hj cB c6 bT j0 aK bV bE b9 bQ a2 q1 q2;go_wp2_with fail
   refine(cV.out Z tb w.heap.size (tb+1) ob lb H a0 HB.out).mono ?_;rintro e w7 ⟨rfl,bF,aJ,b1,d4⟩;have q0:w7.cell? ⟨w.heap.size,0,none⟩=some (P0 eb):=by simp[World.cell?,b1]
   have q1:w7.cell? ⟨tb+1,0,none⟩=some (P0 tb):=by simp[World.cell?,aJ]
   have cM:=az bF;clear bF aJ b1 p0 p1 p2 p3 p4 p5;go_wp2_with fail
   go_region_with (go_at_call 110;refine(cO.out tb (tb+1) w7 w7.drew cM.out (bq (ax _ _))).mono ?_;rintro e w8 ⟨rfl,bL,t0,aZ⟩;have cG:=az bL;have r1:w8.cell? ⟨tb+1,0,none⟩=some (P0 tb):=(by simp[World.cell?,aZ]);clear bL aZ)
   all_goals
    go_wp2_with fail
    go_ret;exact⟨rfl,cG.out⟩
end
namespace F
def Pl.more(s:Pl):Pl:={ s.new with out:=s.out++[(0,0)],lv:=s.lv++[s.nt+1] }
def eE.more(g:eE)(t tb xe xt:Nat)(r7 r6:Option Addr×Nat):eE:=((g.new t tb xe xt).at 7 0 r7).at 6 0 r6
theorem LW.mw{s:Pl}(h:LW s)(e:∀u,u∈s.lv->fe s u):MW s:=⟨λx y o t ht=>(h.b x y o t ht).1,e,λt ht x y i=>(h.a t ht x y i).1⟩
theorem dQ.begin{p:dz}{s:Pl}{g:eE}{w w6:World}{tb xe xt:Nat}{G i:Option Addr}{H J:Nat}(h:dQ p s g w)(hM:MW s)(ho:s.out.length=s.nt)(Y:Ix w w6 p.eb tb xe xt s.out.length s.lv.length (sl s g 7 0) (sl s g 6 0) s.out ((s.lv.map g.tb).map P0) (iJ p s g) G i H J):Tr p s g w s.more (g.more (s.nt+1) tb xe xt (G,H) (i,J)) w6:=by
 have a6:gu s 6 0 0=true:=iq (by omega);have a8:gu s 7 0 0=true:=iq (by omega)
 have aE:∀{t},fe s t->(g.more (s.nt+1) tb xe xt (G,H) (i,J)).tb t=g.tb t:=λh=>(mm (tb:=tb) (xe:=xe) (xt:=xt) g ((λh=>by have:=h.2;omega) h)).1;have a5:(g.more (s.nt+1) tb xe xt (G,H) (i,J)).tb (s.nt+1)=tb:=(jP g (s.nt+1) tb xe xt).1;have a1:(g.more (s.nt+1) tb xe xt (G,H) (i,J)).ro 6 0=(i,J):=qM _ _ _ _;have a0:(g.more (s.nt+1) tb xe xt (G,H) (i,J)).ro 7 0=(G,H):=(kR _ _ (by omega)).trans (qM _ _ _ _);have a9:∀a b,¬(a=6/\b=0)->¬(a=7/\b=0)->(g.more (s.nt+1) tb xe xt (G,H) (i,J)).ro a b=(g.new (s.nt+1) tb xe xt).ro a b:=λa b h6 h7=>(kR _ _ h6).trans (kR _ _ h7);have aD:eH s.more 6 0=s.lv.length+1:=by show(s.lv++[s.nt+1]).length=_;rw[bo];rfl
 have aG:eH s.more 7 0=s.out.length+1:=by show(s.out++[(0,0)]).length=_;rw[bo];rfl
 have aF:∀a b,a≠6->a≠7->eH s.more a b=eH s.new a b:=λa b h6 h7=>by unfold eH;simp only[aa h6,aa h7];rfl
 have a2:∀a b,a≠6->a≠7->sl s.more (g.more (s.nt+1) tb xe xt (G,H) (i,J)) a b=sl s.new (g.new (s.nt+1) tb xe xt) a b:=λa b h6 h7=>by
  unfold sl;rw[a9 a b (λe=>h6 e.1) (λe=>h7 e.1),aF a b h6 h7]
 have aN:∀t,gE p s.more (g.more (s.nt+1) tb xe xt (G,H) (i,J)) t=gE p s.new (g.new (s.nt+1) tb xe xt) t:=λt=>by
  fB j
  unfold gE;rw[a2 12 t (by omega) (by omega),a2 5 t (by omega) (by omega)];rfl
 have aC:∀{x:Nat} {v':Value} {k:Nat},jE w.heap.size (sl s g x 0) v'->v'.ownBlock=some k->eO (g.ro x 0).1=some k\/w.heap.size<=k:=λhm W=>by
  rcases hm with e|⟨g',e,aO⟩
  .rw[W]at e;unfold sl at e;rw[dr]at e;exact ag e.symm
  rw[W]at e;injection e with e;exact ab (by omega)
 have d6:∀k,eO i=some k->k≠tb/\k≠xe/\k≠xt:=λk W=>by
  obtain⟨_,_,cu,h1⟩:=dA Y.l k (by rw[dr];exact W);exact⟨dW h1 Y.t (by decide),dW h1 Y.y (by decide),Y.l3 k (by rw[dr];exact W)⟩
 have d7:∀k,eO G=some k->k≠tb/\k≠xe/\k≠xt/\eO i≠some k:=λk W=>by
  obtain⟨_,_,cu,h1⟩:=dA Y.o k (by rw[dr];exact W);refine⟨dW h1 Y.t (by decide),dW h1 Y.y (by decide),dW h1 Y.x (by decide),λe=>?_⟩;obtain⟨_,_,aP,h2⟩:=dA Y.l k (by rw[dr];exact e);exact dW h1 h2 (by decide) rfl
 have aB:∀a,a=5\/a=11\/a=12\/a=15\/a=16->gu s.more a (s.nt+1) 0=true:=λa ha=>gG ha ⟨by omega,bj _⟩;have a3:∀a,a=5\/a=12->sl s.more (g.more (s.nt+1) tb xe xt (G,H) (i,J)) a (s.nt+1)=.slice none 0 0/\eH s.more a (s.nt+1)=0/\fU s.more (g.more (s.nt+1) tb xe xt (G,H) (i,J)) a (s.nt+1)=[]/\(g.more (s.nt+1) tb xe xt (G,H) (i,J)).ro a (s.nt+1)=(none,0):=λa ha=>by
  have a4:=(a9 a _ (by omega) (by omega)).trans (Dx g ha);have e1:eH s.more a (s.nt+1)=0:=by
   rcases ha with rfl|rfl
   .show(s.new.q 5 (s.nt+1)).length=0;rw[s9];rfl
   show(s.new.T (s.nt+1)).fr.length=0;rw[lM];rfl
  refine⟨?_,e1,?_,a4⟩
  .unfold sl;rw[a4,e1]
  rcases ha with rfl|rfl
  .show((s.new.q 5 (s.nt+1)).map _).map P0=[];rw[s9];rfl
  rw[kr];show((List.range (s.new.T (s.nt+1)).fr.length).map _).map P0=[];rw[lM];rfl
 refine h.to (λa b c=>((a=0\/a=6\/a=7)/\b=0/\c=0)\/((a=5\/a=11\/a=12\/a=15\/a=16)/\b=s.nt+1/\c=0)) (λk=>if k=tb then(11,s.nt+1,0) else if k=xe then(15,s.nt+1,0) else if k=xt then(16,s.nt+1,0) else if eO i=some k then(6,0,0) else(7,0,0)) (Y.s.mono (λk W _=>?_)) (λa b c hC=>?_) (λa b c hC=>?_) (λa b c k hC W=>?_) (Nat.le_succ _) (λu hu=>aE hu)
 .rcases W with W|W|W
  .exact⟨0,0,0,ag ⟨ag rfl,rfl,rfl⟩,W⟩
  .refine⟨7,0,0,ag ⟨ab (ab rfl),rfl,rfl⟩,?_⟩;rw[fR p g (by unfold eQ;omega) a8];unfold sl at W;rw[dr]at W;exact W
  refine⟨6,0,0,ag ⟨ab (ag rfl),rfl,rfl⟩,?_⟩;rw[fR p g (by unfold eQ;omega) a6];unfold sl at W;rw[dr]at W;exact W
 .rw[<-G4 (p:=p) (g:=g) (tb:=tb) (xe:=xe) (xt:=xt) hM (λe=>hC (ab e))];refine jT ((λa b c=>rfl) a b c) (λhV=>lL hV ?_ (λ_=>⟨rfl,rfl,rfl⟩) (λ_=>⟨rfl,aN b⟩) (λ_=>⟨rfl,rfl⟩) (λ_=>⟨rfl,rfl⟩) (λ_=>rfl) (λ_=>⟨rfl,rfl⟩) (λ_=>⟨rfl,rfl⟩) ?_)
  .intro ea;exact ch (ag ⟨ag ea,jZ hV (by omega)⟩) hC
  intro ha;have ec:=pW hV ha;have h6:a≠6:=λe=>hC (ag ⟨ab (ag e),(jZ hV (by omega)).1,ec⟩);have h7:a≠7:=λe=>hC (ag ⟨ab (ab e),(jZ hV (by omega)).1,ec⟩);exact⟨a9 a b (λe=>h6 e.1) (λe=>h7 e.1),aF a b h6 h7,(λa b h6 h7=>by unfold fU;simp only[aa h6,aa h7];rfl) a b h6 h7⟩
 .rcases hC with⟨ha,rfl,rfl⟩|⟨ha,rfl,rfl⟩
  .rcases ha with rfl|rfl|rfl
   .refine Full.congr Y.e (λj hj=>?_);have e6:Value.slice i (s.lv.length+1) J=sl s.more (g.more (s.nt+1) tb xe xt (G,H) (i,J)) 6 0:=by unfold sl;rw[a1,aD]
    have e7:Value.slice G (s.out.length+1) H=sl s.more (g.more (s.nt+1) tb xe xt (G,H) (i,J)) 7 0:=by unfold sl;rw[a0,aG]
    by_cases aA:j=29
    .subst aA;rw[gf,e6];rfl
    rw[eG _ _ _ _ aA];by_cases a7:j=30
    .subst a7;rw[gf,e7];rfl
    rw[eG _ _ _ _ a7];unfold iJ;by_cases q1:j<28
    .rw[aj q1,aj q1]
    rw[aa q1,aa q1];by_cases q2:j=28
    .rw[aj q2,aj q2];rfl
    rw[aa q2,aa q2];by_cases q3:j=42
    .rw[aj q3,aj q3];rfl
    rw[aa q3,aa q3];have hI:=tB j;have k6:(kN j).1≠6:=λe=>aA (tD j hj 29 (by omega) (by omega) q3 (by omega) (by omega) (fV e (by
     rcases hI.2.2.2 with e1|e1|e1
     .omega
     .omega
     exact e1)))
    have k7:(kN j).1≠7:=λe=>a7 (tD j hj 30 (by omega) (by omega) q3 (by omega) (by omega) (fV e (by
     rcases hI.2.2.2 with e1|e1|e1
     .omega
     .omega
     exact e1)))
    rw[a2 _ _ k6 k7];unfold sl;rw[vD g (λe=>by have:=hI.2.1;have:=hI.2.2.1;omega)];have:eH s.new (kN j).1 (kN j).2=eH s (kN j).1 (kN j).2:=by
     unfold eH;rw[qA s (λe=>by have:=hI.2.1;omega)];simp only[aa hI.2.2.1];rfl
    rw[this]
   .rw[gH (show gu s.more 6 0 0=true from iq (by omega)),gk (by unfold eQ;omega)];show w6.ownsRow 0 155 1 (.slice ((g.more (s.nt+1) tb xe xt (G,H) (i,J)).ro 6 0).1 (eH s.more 6 0) ((g.more (s.nt+1) tb xe xt (G,H) (i,J)).ro 6 0).2) (eH s.more 6 0) (((s.lv++[s.nt+1]).map (g.more (s.nt+1) tb xe xt (G,H) (i,J)).tb).map P0);rw[a1,aD,eP,eP];have e1:s.lv.map (g.more (s.nt+1) tb xe xt (G,H) (i,J)).tb=s.lv.map g.tb:=List.map_congr_left (λt ht=>aE (hM.b t ht));have e2:([s.nt+1].map (g.more (s.nt+1) tb xe xt (G,H) (i,J)).tb).map P0=[P0 tb]:=by show[P0 _]=_;rw[a5]
    rw[e1,e2];exact Y.l
   rw[gH (show gu s.more 7 0 0=true from iq (by omega)),gk (by unfold eQ;omega)];show w6.ownsRow 0 149 2 (.slice ((g.more (s.nt+1) tb xe xt (G,H) (i,J)).ro 7 0).1 (eH s.more 7 0) ((g.more (s.nt+1) tb xe xt (G,H) (i,J)).ro 7 0).2) (eH s.more 7 0) (fT (s.out++[(0,0)]));rw[a0,aG,oY];exact Y.o
  rw[gH (aB a ha)];by_cases h5:a=5\/a=12
  .rw[gk (by unfold eQ;omega)];show w6.ownsRow 0 (zA a) (zB a) (sl s.more (g.more (s.nt+1) tb xe xt (G,H) (i,J)) a (s.nt+1)) (eH s.more a (s.nt+1)) (fU s.more (g.more (s.nt+1) tb xe xt (G,H) (i,J)) a (s.nt+1));obtain⟨e1,e2,e3,_⟩:=a3 a h5;rw[e1,e2,e3];exact dJ w6 _ _ _
  have:a=11\/a=15\/a=16:=by omega
  rcases this with rfl|rfl|rfl
  .show Full w6 ((g.more (s.nt+1) tb xe xt (G,H) (i,J)).tb (s.nt+1)) 160 7 7 (gE p s.more (g.more (s.nt+1) tb xe xt (G,H) (i,J)) (s.nt+1));rw[a5];refine⟨_,Y.t,rfl,λj hj=>?_⟩;have hc:j=0\/j=1\/j=2\/j=3\/j=4\/j=5\/j=6:=by omega
   have hT:s.more.T (s.nt+1)=qR:=lM s;rcases hc with rfl|rfl|rfl|rfl|rfl|rfl|rfl
   .show some (Value.int .i64 ((s.out.length:Int)+1))=some (Value.int .i64 ((s.nt+1:Nat):Int));rw[ho];rfl
   .show some (Value.slice none 0 0)=some (sl s.more (g.more (s.nt+1) tb xe xt (G,H) (i,J)) 12 (s.nt+1));rw[(a3 12 (ab rfl)).1]
   .show some (Value.bool false)=some (Value.bool (s.more.T (s.nt+1)).run);rw[hT];rfl
   .show some (Value.pointer none)=some (x8 p _ (s.more.T (s.nt+1)).wh);rw[hT];rfl
   .show some Value.nilFunc=some (Ba _ (s.nt+1) (s.more.T (s.nt+1)).lf);rw[hT];rfl
   .show some (Value.int .i64 0)=some (Value.int .i64 (s.more.T (s.nt+1)).iL);rw[hT];rfl
   show some (Value.slice none 0 0)=some (sl s.more (g.more (s.nt+1) tb xe xt (G,H) (i,J)) 5 (s.nt+1));rw[(a3 5 (ag rfl)).1]
  .show w6.heap[(g.new (s.nt+1) tb xe xt).xe (s.nt+1)]? = _;rw[(jP g (s.nt+1) tb xe xt).2.1];exact Y.y
  show w6.heap[(g.new (s.nt+1) tb xe xt).xt (s.nt+1)]? = some (.cells #[P0 ((g.new (s.nt+1) tb xe xt).tb (s.nt+1))] 155 (0,0));rw[(jP g (s.nt+1) tb xe xt).2.2,(jP g (s.nt+1) tb xe xt).1];exact Y.x
 rcases hC with⟨ha,rfl,rfl⟩|⟨ha,rfl,rfl⟩
 .rcases ha with rfl|rfl|rfl
  .exact ag W
  .rw[fR p _ (by unfold eQ;omega) (show gu s.more 6 0 0=true from iq (by omega)),a1]at W;rw[fR p g (by unfold eQ;omega) a6];refine(aC Y.l2 (by rw[dr];exact W)).imp id (λhl=>⟨hl,?_⟩);obtain⟨q1,q2,q3⟩:=d6 k W;rw[aa q1,aa q2,aa q3,aj W]
  rw[fR p _ (by unfold eQ;omega) (show gu s.more 7 0 0=true from iq (by omega)),a0]at W;rw[fR p g (by unfold eQ;omega) a8];refine(aC Y.o2 (by rw[dr];exact W)).imp id (λhl=>⟨hl,?_⟩);obtain⟨q1,q2,q3,q4⟩:=d7 k W;rw[aa q1,aa q2,aa q3,aa q4]
 rw[gH (aB a ha)]at W;by_cases h5:a=5\/a=12
 .rw[gk (by unfold eQ;omega)]at W;have Z:eO ((g.more (s.nt+1) tb xe xt (G,H) (i,J)).ro a (s.nt+1)).1=some k:=W;rw[(a3 a h5).2.2.2]at Z
  cases Z
 have:a=11\/a=15\/a=16:=by omega
 rcases this with rfl|rfl|rfl
 .have Z:k=(g.new (s.nt+1) tb xe xt).tb (s.nt+1):=W;rw[(jP g (s.nt+1) tb xe xt).1]at Z;subst Z;exact ab ⟨Y.n.1,aj rfl⟩
 .have Z:k=(g.new (s.nt+1) tb xe xt).xe (s.nt+1):=W;rw[(jP g (s.nt+1) tb xe xt).2.1]at Z;subst Z;exact ab ⟨Y.n.2.1,by rw[aa (dW Y.y Y.t (by decide)),aj rfl]⟩
 have Z:k=(g.new (s.nt+1) tb xe xt).xt (s.nt+1):=W;rw[(jP g (s.nt+1) tb xe xt).2.2]at Z;subst Z;exact ab ⟨Y.n.2.2,by rw[aa (dW Y.x Y.t (by decide)),aa (dW Y.x Y.y (by decide)),aj rfl]⟩
end F
end Go.Proofs.YtnjiinbhbjpfkaaGreatDoor
