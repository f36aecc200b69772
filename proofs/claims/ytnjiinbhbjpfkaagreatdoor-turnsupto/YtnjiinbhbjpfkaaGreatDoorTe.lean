import Derived.Test.YtnjiinbhbjpfkaaGreatDoorTb
import Derived.Test.YtnjiinbhbjpfkaaGreatDoorTd
set_option maxRecDepth 100000
set_option maxHeartbeats 0
set_option linter.all false
namespace Go.Proofs.YtnjiinbhbjpfkaaGreatDoor
open Go.RowKit Go.Proofs.Tryz
namespace D
open F
variable {p:dL}{d:Dp}{K:Nat}{s:Pl}{m m':Dm}{g g':Dg}{w w':aa}{ρ:Nat → Nat}
structure oV(p:dL) (d:Dp) (s:Pl) (m:Dm) (g:Dg) (w:aa) (ρ:Nat->Nat) (t tb fb n nr:Nat):Prop where
 T:MA d m g w t tb fb n
 hn:de s t=n
 hf:(fU m t n).f=(bw s t).f
 r1:d.rg (fU m t n).f=nr
 r2:p.rg (bw s t).f=nr
 F:Full w (g.rb t n) 115 (nr*2) (nr*2) (eQ (fU m t n).R)
 V:∀a,a<nr->(fU m t n).R a=tr ρ ((bw s t).R a)
 n20:n<20
 dt:mY m t
section
variable {t tb fb n nr:Nat} (h:oV p d s m g w ρ t tb fb n nr)
include h
def oV.tp:qd m t=n:=by unfold qd;rw[h.T.l];omega
def oV.tf:pS m t=fU m t n:=by unfold pS;rw[h.tp]
theorem oV.hi:n<(m.T t).fr.length:=by rw[h.T.l];omega
end
variable {fb nr t:Nat}{v:B.V}
theorem Rn.run(hP:PD p d)(h:dZ d m g w)(hS:eF p K s m ρ)(hR:Rn p s t):∃tb fb n nr,oV p d s m g w ρ t tb fb n nr:=by
 have u:=hS.T t hR.lv;have o:=(iG hS t).2 hR.ht;obtain⟨tb,fb,n,T⟩:=h.top o (by rw[u.l];exact λe=>hR.fw.n1 (db.1 e));have hn:de s t=n:=by unfold de;rw[<-u.l,T.l];omega
 have W:=u.f n (by rw[<-u.l,T.l];omega);have G:bw s t=dq s t n:=by unfold bw;rw[hn]
 have J:(fU m t n).f=(bw s t).f:=eV G W.f;have y:=hP.rg (bw s t).f hR.ff.1;refine⟨tb,fb,n,p.rg (bw s t).f,T,hn,J,by rw[J,y],rfl,?_,λa Y=>?_,?_,o⟩
 .have:=h.R o (i:=n) (kr T.l);rw[J,y]at this;exact this
 .rw[G]at Y ⊢;exact W.R a Y
 have:=hR.fw.n2;rw[<-u.l,T.l]at this;omega
theorem oV.kept{t tb fb n nr:Nat}(h:oV p d s m g w ρ t tb fb n nr)(H:dZ d m g w)(y:w.grownBy w' none):oV p d s m g w' ρ t tb fb n nr:=by
 obtain⟨i,u,W,T⟩:=(H.kept y).top h.dt (kr h.T.l);have Y:i=tb:=by
  have:=T.b;rw[h.T.b]at this;injection this with this _;injection this with this;injection this with this _;exact this.symm
 have J:u=fb:=by
  have:=T.a;rw[h.T.a]at this;injection this with this;injection this with this _;exact this.symm
 have G:W=n:=by
  have:=T.l;rw[h.T.l]at this;omega
 subst Y J G;exact⟨T,h.hn,h.hf,h.r1,h.r2,h.F.block (y.block _ h.F.lt im),h.V,h.n20,h.dt⟩
theorem oV.set{tb n:Nat}(h:oV p d s m g w ρ t tb fb n nr)(i:dZ d m g w)(hS:eF p K s m ρ)(hR:Rn p s t)(a:Nat)(e:dW p s v)(o:((w.setCell (ay (g.rb t n) (a*2)) (aj ((tr ρ v).1:Int))).setCell (ay (g.rb t n) (a*2+1)) (aj (tr ρ v).2)).grownBy w' none): ∃m' g',Tr d m g w m' g' w'/\eF p K (s.dJ t (de s t) ((bw s t).set a v)) m' ρ:=by
 refine⟨_,g,(i.se h.dt h.hi a (tr ρ v)).kept o,?_⟩;have:=hS.oK hR.lv hR.fw.n1 a e;rw[h.tp,h.tf]at this;exact this
def oV.rc{tb n a:Nat}(h:oV p d s m g w ρ t tb fb n nr)(e:a<nr):w.cell? (ay (g.rb t n) (a*2))=some (aj ((tr ρ ((bw s t).R a)).1:Int))/\w.cell? (ay (g.rb t n) (a*2+1))=some (aj (tr ρ ((bw s t).R a)).2)/\w.frozen? (ay (g.rb t n) (a*2))=false/\w.frozen? (ay (g.rb t n) (a*2+1))=false:=by
 have:=Jn h.F e;rw[h.V a e]at this;exact this
def eF.IH(hS:eF p K s m ρ)(u:Ok p s)(o:dW p s v)(i:v.1≠0):tr ρ v=(ρ v.1,0)/\1<=ρ v.1/\ρ v.1<=m.nc/\m.M (ρ v.1)=(s.M v.1).map (tr ρ)/\m.ck (ρ v.1)=s.ck v.1:=by
 have e:=hS.C v.1 (B.pR.vO o i);exact⟨qI i,e.c1,e.c2,e.M,e.k⟩
end D
namespace D
open F
variable {p:dL}{d:Dp}{K:Nat}{s:Pl}{m m':Dm}{g g':Dg}{w w':aa}{ρ:Nat → Nat}
def kR(w:aa)(r a:Nat)(v:B.V):Prop:=w.cell? ⟨r,a*2,none⟩=some (.int .i64 (v.1:Int))/\w.cell? ⟨r,a*2+1,none⟩=some (.int .i64 v.2)/\w.frozen? ⟨r,a*2,none⟩=false/\w.frozen? ⟨r,a*2+1,none⟩=false
def oz(w:aa)(r a:Nat)(v:B.V):aa:=(w.setCell ⟨r,a*2,none⟩ (.int .i64 (v.1:Int))).setCell ⟨r,a*2+1,none⟩ (.int .i64 v.2)
def fT{w w0:aa}(h:w.grownBy w0 none)(a:Addr)(v:Value):(w.setCell a v).grownBy (w0.setCell a v) none:=by
 refine⟨h.os,h.tape,h.output,by simpa[World.setCell] using h.size,λk i _=>?_⟩;simp[World.setCell,dh,h.block k (by simp_all) ag]
def Oh{mb t i nr a b c:Nat}{y:B.V}(ha:a<nr)(hb:b<256)(H:c<256)(r:kR w i a y): dD 194 #[P0 mb,aj t,dA i nr nr,jn 0 a b c] w (aj 0) λw'=>(oz w i a (0,B.wide b c)).grownBy w' none:=by
 obtain⟨u,r1,Y,Z⟩:=r;have W:i<w.heap.size:=an w _ u;have G:(a:Int)<nr:=ag
 have q1:IntKind.i64.wrap (256*(b:Int))=256*(b:Int):=iU;have J:IntKind.i64.wrap (256*(b:Int)+(c:Int))=256*(b:Int)+(c:Int):=iU;delta dD;go_in;go_wp2
 all_goals go_ret
 .refine⟨rfl,?_⟩;have e:B.wide b c=256*(b:Int)+c-65536:=by unfold B.wide;rw[eD];omega
  rw[e];exact ax (aw _ _) _
 refine⟨rfl,?_⟩;have e:B.wide b c=256*(b:Int)+c:=by unfold B.wide;rw[mm];omega
 rw[e];exact ax (aw _ _) _
def Og{mb t i nr a b c:Nat}{y vb:B.V}(ha:a<nr)(H:b<nr)(hb:b<256)(hc:c<256)(r:kR w i a y)(rb:kR w i b vb): dD 194 #[P0 mb,aj t,dA i nr nr,jn 1 a b c] w (aj 0) λw'=>(oz w i a vb).grownBy w' none:=by
 obtain⟨u,r1,r2,Y⟩:=r;have W:i<w.heap.size:=an w _ u;have G:(a:Int)<nr:=ag
 have q1:IntKind.i64.wrap (256*(b:Int))=256*(b:Int):=iU;have q2:IntKind.i64.wrap (256*(b:Int)+(c:Int))=256*(b:Int)+(c:Int):=iU;obtain⟨Z,s1,_,_⟩:=rb;have J:(b:Int)<nr:=ag
 delta dD;go_in;go_wp2
 all_goals go_ret
 all_goals refine⟨rfl,?_⟩
 all_goals first|exact ax (aw _ _) _|exact bo (ax (aw _ _) _)
def M4{mb t i nr a b c:Nat}{G:B.V}{x:Int}(ha:a<nr)(hb:b<256)(hc:c<256)(r:kR w i a G)(u:w.cell? (ay mb 5)=some (aj x))(hn:mb≠i): dD 194 #[P0 mb,aj t,dA i nr nr,jn 22 a b c] w (aj 0) λw'=>(oz w i a (0,x)).grownBy w' none:=by
 obtain⟨y,r1,r2,Y⟩:=r;have W:i<w.heap.size:=an w _ y;have J:(a:Int)<nr:=ag
 have q1:IntKind.i64.wrap (256*(b:Int))=256*(b:Int):=iU;have q2:IntKind.i64.wrap (256*(b:Int)+(c:Int))=256*(b:Int)+(c:Int):=iU;have Z:mb<w.heap.size:=an w _ u;delta dD;go_in;go_wp2
 all_goals go_ret
 all_goals refine⟨rfl,?_⟩
 all_goals first|exact ax (aw _ _) _|exact bo (ax (aw _ _) _)
def Mz{o:Nat}(x y:Int)(i:o=2\/o=3\/o=4\/o=5):dD 212 #[aj o,aj x,aj y] w (aj (arith o x y)) λw'=>w'=w:=by
 rcases i with rfl|rfl|rfl|rfl
 all_goals
  delta dD;go_in;go_wp2
 all_goals go_ret
 .simp[wrap64,arith,B.wrap]
 .simp[wrap64,arith,B.wrap]
 .simp[wrap64,arith,B.wrap]
 .simp_all[arith,sP]
 simp_all[arith,sP]
def IF(e y1:Nat)(x2 y2:Int)(w:aa):(binOp .eql 115 (.agg #[aj e,aj x2]) (.agg #[aj y1,aj y2])).run prog w=.ok (.bool (decide ((e,x2)=(y1,y2)))) w:=by
 have i:((e:Int)=y1)↔e=y1:=ag;simp[go_sem];grind
def Of{mb t i nr a b c:Nat}{va vb Y:B.V}(ha:a<nr)(a7:b<nr)(a5:c<nr)(hb:b<256)(hc:c<256)(r:kR w i a va)(rb:kR w i b vb)(rc:kR w i c Y): dD 194 #[P0 mb,aj t,dA i nr nr,jn 6 a b c] w (aj 0) λw'=>(oz w i a (0,if vb=Y then 1 else 0)).grownBy w' none:=by
 obtain⟨r0,r1,r2,r3⟩:=r;have lr:i<w.heap.size:=an w _ r0;have a6:(a:Int)<nr:=ag
 have a0:i<w.heap.size+1:=ag
 have q1:IntKind.i64.wrap (256*(b:Int))=256*(b:Int):=iU
 have q2:IntKind.i64.wrap (256*(b:Int)+(c:Int))=256*(b:Int)+(c:Int):=iU
 obtain⟨J,H⟩:=vb;obtain⟨c1,W⟩:=Y;obtain⟨s0,s1,_,_⟩:=rb;obtain⟨u0,u1,_,_⟩:=rc;simp only[]at s0 s1 u0 u1;have Z:=IF J c1 H W;have y:(if(J,H)=(c1,W) then(1:Int) else 0)=if decide ((J,H)=(c1,W))=true then 1 else 0:=eB
 rw[y];generalize decide ((J,H)=(c1,W))=dd at *;have a8:(b:Int)<nr:=ag
 have a3:(c:Int)<nr:=ag
 delta dD;go_in;go_wp2
 go_quiet (fail)
 have HX:∃o:aa,o=(((w.alloc (.cells #[aj ((6:Nat):Int),aj a,aj b,aj c] 90)).alloc (.cells #[aj 0,aj 0] 115)).drewN nq)/\w.grownBy o none/\dS o (w.heap.size+1) 0=some (aj 0)/\dS o (w.heap.size+1) 1=some (aj 0)/\o.frozen? (ay (w.heap.size+1) 1)=false:=⟨_,rfl,df (ax (ax (aw _ _) _) _) _,by simp[go_sem],by simp[go_sem],by simp[go_sem]⟩;obtain⟨o,e3,u,x0,x1,x2⟩:=HX;have G:(((w.alloc (.cells #[aj 6,aj a,aj b,aj c] 90)).alloc (.cells #[aj 0,aj 0] 115)).drewN nq)=o:=e3.symm;rw[G];clear e3 G;obtain⟨y0,y2⟩:=bd u (a:=ay i (a*2)) lr;obtain⟨y1,y3⟩:=bd u (a:=ay i (a*2+1)) lr;rw[r0]at y0;rw[r1]at y1;rw[r2]at y2;rw[r3]at y3
 have HG:=bj u
 cases dd with
 | true=>
  go_wp2
  go_ret;refine⟨rfl,?_⟩;exact fT (fT (bu HG (ah (Nat.le_succ _)) _) _ _) _ _
 | false=>
  go_wp2
  go_ret;refine⟨rfl,?_⟩;exact fT (fT HG _ _) _ _
def M3{o mb t i nr a b c:Nat}{va vb G:B.V}(Y:o=2\/o=3\/o=4\/o=5)(ha:a<nr)(a5:b<nr)(a3:c<nr)(hb:b<256)(hc:c<256)(r:kR w i a va)(rb:kR w i b vb)(rc:kR w i c G): Calls prog 194 #[P0 mb,aj t,dA i nr nr,jn o a b c] w λe w'=>((vb.1=0/\G.1=0)/\e=.returned (aj 0)/\(oz w i a (0,arith o vb.2 G.2)).grownBy w' none)\/(¬(vb.1=0/\G.1=0)/\e=.returned (aj 1)/\w.grownBy w' none):=by
 obtain⟨r0,r1,r2,r3⟩:=r;have lr:i<w.heap.size:=an w _ r0;have a4:(a:Int)<nr:=ag
 have Z:i<w.heap.size+1:=ag
 have a1:i<w.heap.size+1+1:=ag
 have q1:IntKind.i64.wrap (256*(b:Int))=256*(b:Int):=iU
 have q2:IntKind.i64.wrap (256*(b:Int)+(c:Int))=256*(b:Int)+(c:Int):=iU
 obtain⟨W,H⟩:=vb;obtain⟨c1,J⟩:=G;obtain⟨s0,s1,_,_⟩:=rb;obtain⟨u0,u1,_,_⟩:=rc;simp only[]at s0 s1 u0 u1;have a6:(b:Int)<nr:=ag
 have a0:(c:Int)<nr:=ag
 by_cases hz:W=0/\c1=0
 .obtain⟨rfl,rfl⟩:=hz;have HA:Hid (∀w0:aa,dD 212 #[aj o,aj H,aj J] w0 (aj (arith o H J)) λw'=>w'=w0):=λw0=>Mz H J Y;generalize hy:arith o H J=y at *;clear hy;rcases Y with rfl|rfl|rfl|rfl
  all_goals
   go_in;go_wp2_with fail
   refine du (HA _) ?_;rintro w2 rfl;go_wp2
   go_ret;refine af ⟨eB,rfl,?_⟩
  all_goals exact ax (ax (ax (aw _ _) _) _) _
 have u:(0<(W:Int))\/(W=0/\0<(c1:Int)):=ag
 change Hid _ at hz;rcases u with u|⟨rfl,u⟩<;>rcases Y with rfl|rfl|rfl|rfl
 all_goals
  go_in;go_wp2
  go_ret;refine ah ⟨by have:=hz.out;simpa using this,rfl,?_⟩
 all_goals exact ax (ax (ax (aw _ _) _) _) _
def AN{o mb t i nr a b c:Nat}{R:Int->aa->Prop}(G:o=9\/o=10\/o=11\/o=12)(Z:b<256)(J:c<256)(H:∀w1,w.grownBy w1 none->Calls prog 214 #[P0 mb,dA i nr nr,jn o a b c] w1 λe w'=>∃v:Int,e=.returned (aj v)/\R v w'): Calls prog 194 #[P0 mb,aj t,dA i nr nr,jn o a b c] w λe w'=>∃v:Int,e=.returned (aj v)/\R v w':=by
 have Y:IntKind.i64.wrap (256*(b:Int))=256*(b:Int):=iU
 have W:IntKind.i64.wrap (256*(b:Int)+(c:Int))=256*(b:Int)+(c:Int):=iU
 have u:=bj (H (w.alloc (.cells #[aj o,aj a,aj b,aj c] 90)) (ax (aw _ _) _));rcases G with rfl|rfl|rfl|rfl
 all_goals
  go_in;go_wp2_with fail
  refine u.mono ?_;rintro e w2 ⟨v,rfl,hR⟩;have y:=bj hR;go_wp2
  go_ret;simp_all
def Jb{o mb t i nr a b c:Nat}{R:Int->aa->Prop}(G:o=13\/o=15\/o=17\/o=18\/o=19\/o=21)(Z:b<256)(J:c<256)(H:∀w1,w.grownBy w1 none->Calls prog 215 #[P0 mb,aj t,dA i nr nr,jn o a b c] w1 λe w'=>∃v:Int,e=.returned (aj v)/\R v w'): Calls prog 194 #[P0 mb,aj t,dA i nr nr,jn o a b c] w λe w'=>∃v:Int,e=.returned (aj v)/\R v w':=by
 have Y:IntKind.i64.wrap (256*(b:Int))=256*(b:Int):=iU
 have W:IntKind.i64.wrap (256*(b:Int)+(c:Int))=256*(b:Int)+(c:Int):=iU
 have u:=bj (H (w.alloc (.cells #[aj o,aj a,aj b,aj c] 90)) (ax (aw _ _) _));rcases G with rfl|rfl|rfl|rfl|rfl|rfl
 all_goals
  go_in;go_wp2_with fail
  refine u.mono ?_;rintro e w2 ⟨v,rfl,hR⟩;have y:=bj hR;go_wp2
  go_ret;simp_all
def Oe{mb t i nr a b c:Nat}{R:aa->Prop}(Y:b<256)(G:c<256)(H:∀w1,w.grownBy w1 none->eL 213 #[P0 mb,aj t,aj ((256*b+c:Nat):Int)] w1 λw'=>R w'): dD 194 #[P0 mb,aj t,dA i nr nr,jn 7 a b c] w (aj 0) λw'=>R w':=by
 have W:IntKind.i64.wrap (256*(b:Int))=256*(b:Int):=iU;have J:IntKind.i64.wrap (256*(b:Int)+(c:Int))=256*(b:Int)+(c:Int):=iU;have o:((256*b+c:Nat):Int)=256*(b:Int)+(c:Int):=ag;rw[o]at H;have y:=bj (H (w.alloc (.cells #[aj ((7:Nat):Int),aj a,aj b,aj c] 90)) (ax (aw _ _) _));delta dD;go_in;go_wp2_with fail
 refine du y λw2 hR=>?_;have u:=bj hR;go_wp2
 go_ret;simp_all
def Od{mb t G nr a b c:Nat}{o:B.V}{R:aa->Prop}(ha:a<nr)(hb:b<256)(hc:c<256)(r:kR w G a o)(H:∀w1,o=(0,0)->w.grownBy w1 none->Calls prog 213 #[P0 mb,.int .i64 (t:Int),.int .i64 ((256*b+c:Nat):Int)] w1 λe w'=>e=.returned (.tuple #[])/\R w')(J:∀w1,o≠(0,0)->w.grownBy w1 none->R w1): Calls prog 194 #[P0 mb,.int .i64 (t:Int),.slice (some ⟨G,0,none⟩) nr nr,jn 8 a b c] w λe w'=>e=.returned (.int .i64 0)/\R w':=by
 have q1:IntKind.i64.wrap (256*(b:Int))=256*(b:Int):=iU
 have q2:IntKind.i64.wrap (256*(b:Int)+(c:Int))=256*(b:Int)+(c:Int):=iU
 have e0:((256*b+c:Nat):Int)=256*(b:Int)+(c:Int):=ag
 rw[e0]at H;obtain⟨Y,r1,r2,r3⟩:=r;have lr:G<w.heap.size:=an w _ Y;have a0:(a:Int)<(nr:Int):=ag
 obtain⟨u,y⟩:=o;simp only[]at Y r1;have i:∀w0,(binOp .eql 115 (.agg #[.int .i64 (u:Int),.int .i64 y]) (.agg #[.int .i64 0,.int .i64 0])).run prog w0=.ok (.bool (decide ((u,y)=(0,0)))) w0:=IF u 0 y 0;have Z:=ax (aw w none) (.cells #[.int .i64 ((8:Nat):Int),.int .i64 (a:Int),.int .i64 (b:Int),.int .i64 (c:Int)] 90);by_cases hz:(u,y)=(0,0)
 .have W:=bj (H _ hz Z);rw[fp hz]at i;go_in;go_wp2_with fail
  refine W.out.mono ?_;rintro e w2 ⟨rfl,hR⟩;have HR:=bj hR;go_wp2_with fail
  go_ret;simp_all
 have W:=bj (J _ hz Z);rw[eW hz]at i;go_in;go_wp2_with fail
 go_ret;simp_all
def M6{mb t i nr a b c:Nat}{o:B.V}{R:aa->Prop}{f:Bool}(ha:a<nr)(hb:b<256)(hc:c<256)(r:kR w i a o)(H:∀w1,w.grownBy w1 none->dD 193 #[P0 mb,aj t,vA o] w1 (.bool f) λw'=>R w'): dD 194 #[P0 mb,aj t,dA i nr nr,jn 14 a b c] w (aj (if f=true then -1 else 0)) λw'=>R w':=by
 have q1:IntKind.i64.wrap (256*(b:Int))=256*(b:Int):=iU
 have q2:IntKind.i64.wrap (256*(b:Int)+(c:Int))=256*(b:Int)+(c:Int):=iU
 obtain⟨u,W,r2,Z⟩:=r;have Y:i<w.heap.size:=an w _ u;have J:(a:Int)<nr:=ag
 obtain⟨a1,a2⟩:=o;simp only[]at u W;have y:=bj (H (w.alloc (.cells #[aj ((14:Nat):Int),aj a,aj b,aj c] 90)) (ax (aw _ _) _));delta dD;go_in;go_wp2_with fail
 refine du y λw2 hR=>?_;have G:=bj hR
 cases f
 all_goals
  go_wp2
  go_ret;simp_all
def M5{mb t o nr a b c:Nat}{i:B.V}{R:aa->Prop}(ha:a<nr)(hb:b<256)(hc:c<256)(r:kR w o a i)(H:∀w1,w.grownBy w1 none->eL 195 #[P0 mb,aj ((1:Nat):Int),aj t,aj i.2] w1 λw'=>R w'): Calls prog 194 #[P0 mb,aj t,dA o nr nr,jn 20 a b c] w λe w'=>(i.1=0/\e=.returned (aj 0)/\R w')\/(i.1≠0/\e=.returned (aj 1)/\w.grownBy w' none):=by
 have q1:IntKind.i64.wrap (256*(b:Int))=256*(b:Int):=iU
 have q2:IntKind.i64.wrap (256*(b:Int)+(c:Int))=256*(b:Int)+(c:Int):=iU
 obtain⟨u,Z,r2,r3⟩:=r;have lr:o<w.heap.size:=an w _ u;have Y:(a:Int)<nr:=ag
 obtain⟨y,a2⟩:=i;simp only[]at u Z H ⊢;have J:=bj (H (w.alloc (.cells #[aj ((20:Nat):Int),aj a,aj b,aj c] 90)) (ax (aw _ _) _));by_cases hz:y=0
 .subst hz;go_in;go_wp2_with fail
  refine du J λw2 hR=>?_;have W:=bj hR;go_wp2
  go_ret;simp_all
 have h1:(0:Int)<y:=ag
 have G:=bj hz;go_in;go_wp2
 go_ret;simp_all[ax,aw]
def N6{o mb t i nr a b c:Nat}{R:Int->aa->Prop}(G:o=13\/o=15)(H:∀w1,w.grownBy w1 none->Calls prog 227 #[P0 mb,aj t,dA i nr nr,jn o a b c] w1 λe w'=>∃v:Int,e=.returned (aj v)/\R v w'): Calls prog 215 #[P0 mb,aj t,dA i nr nr,jn o a b c] w λe w'=>∃v:Int,e=.returned (aj v)/\R v w':=by
 have u:=bj (H (w.alloc (.cells #[aj o,aj a,aj b,aj c] 90)) (ax (aw _ _) _));rcases G with rfl|rfl
 all_goals
  go_in;go_wp2_with fail
  refine u.mono ?_;rintro e w2 ⟨v,rfl,hR⟩;have y:=bj hR;go_wp2
  go_ret;exact⟨v,rfl,y⟩
def AS{o mb t i nr a b c:Nat}{u:B.V}(J:o=17\/o=19)(ha:a<nr)(r:kR w i a u)(hz:u.1≠0): dD 215 #[P0 mb,aj t,dA i nr nr,jn o a b c] w (aj 1) λw'=>w.grownBy w' none:=by
 have W:i<w.heap.size:=an w _ r.1;have H:(a:Int)<nr:=ag
 obtain⟨Z,r1,_,_⟩:=r;have Y:(0:Int)<u.1:=ag
 rcases J with rfl|rfl
 all_goals
  delta dD;go_in;go_wp2
  go_ret;exact⟨rfl,ax (ax (aw _ _) _) _⟩
def AR{o mb t i nr a b c:Nat}{y vb:B.V}(W:o=18\/o=21)(ha:a<nr)(hb:b<nr)(r:kR w i a y)(rb:kR w i b vb)(hz:vb.1≠0): dD 215 #[P0 mb,aj t,dA i nr nr,jn o a b c] w (aj 1) λw'=>w.grownBy w' none:=by
 have Y:i<w.heap.size:=an w _ r.1;have H:(a:Int)<nr:=ag
 have u:i<w.heap.size+1:=ag
 obtain⟨r0,r1,_,_⟩:=r;obtain⟨s0,s1,_,_⟩:=rb;have J:(b:Int)<nr:=ag
 have Z:(0:Int)<vb.1:=ag
 rcases W with rfl|rfl
 all_goals
  delta dD;go_in;go_wp2
  go_ret;exact⟨rfl,ax (ax (aw _ _) _) _⟩
def Gm{mb t i nr a b c:Nat}{J vb:B.V}(ha:a<nr)(hb:b<nr)(r:kR w i a J)(rb:kR w i b vb)(hz:vb.1=0)(y:¬(0<=vb.2/\vb.2<=3)): dD 215 #[P0 mb,aj t,dA i nr nr,jn 21 a b c] w (aj 8) λw'=>w.grownBy w' none:=by
 have lr:i<w.heap.size:=an w _ r.1;have Y:(a:Int)<nr:=ag
 have G:i<w.heap.size+1:=ag
 obtain⟨r0,r1,_,_⟩:=r;obtain⟨b1,o⟩:=vb;simp only[]at hz y;subst hz;obtain⟨H,s1,_,_⟩:=rb;simp only[]at H s1;have Z:(b:Int)<nr:=ag
 have u:o<0\/(¬o<0/\3<o):=ag
 rcases u with u|⟨h0,u⟩
 all_goals
  delta dD;go_in;go_wp2
  go_ret;exact⟨rfl,ax (ax (aw _ _) _) _⟩
def Nw(w w3:aa)(o a b c:Nat)(x0 x1:Int):Prop:=w.grownBy w3 none/\w3.cell? ⟨w.heap.size,0,none⟩=some (.int .i64 (o:Int))/\w3.cell? ⟨w.heap.size,1,none⟩=some (.int .i64 (a:Int))/\w3.cell? ⟨w.heap.size,2,none⟩=some (.int .i64 (b:Int))/\w3.cell? ⟨w.heap.size,3,none⟩=some (.int .i64 (c:Int))/\w3.cell? ⟨w.heap.size+1,0,none⟩=some (.int .i64 x0)/\w3.cell? ⟨w.heap.size+1,1,none⟩=some (.int .i64 x1)
def nw(w:aa)(o a b c:Nat)(e i:Int)(n:Nat):Nw w (((w.alloc (.cells #[aj o,aj a,aj b,aj c] 90)).alloc (.cells #[aj e,aj i] 115)).drewN n) o a b c e i:=
 ⟨df (ax (ax (aw _ _) _) _) _,by simp[go_sem],by simp[go_sem],by simp[go_sem],by simp[go_sem],by simp[go_sem],by simp[go_sem]⟩
def DY{mb t i nr a b c k bc:Nat}{J:Option Addr}{Y:B.V}{R:aa->Prop}(ha:a<nr)(hb:b<nr)(r:kR w i a Y)(rb:kR w i b (0,(k:Int)))(hk:k<4)(h8:w.cell? (ay mb (8+k))=some (.slice J 0 bc))(H:∀w1,w.grownBy w1 none->eL 228 #[P0 mb,aj t,aj 3,aj k,aj a] w1 λw'=>R w'): dD 215 #[P0 mb,aj t,dA i nr nr,jn 21 a b c] w (aj (-1)) λw'=>R w':=by
 have lr:i<w.heap.size:=an w _ r.1;have a1:(a:Int)<nr:=ag
 have G:i<w.heap.size+1:=ag
 obtain⟨r0,r1,r2,r3⟩:=r;obtain⟨W,s1,_,_⟩:=rb;simp only[]at W s1;have a2:(b:Int)<nr:=ag
 have lm:mb<w.heap.size:=an w _ h8;have Z:mb<w.heap.size+1:=ag
 have k1:¬((k:Int)<0):=ag
 have k2:¬(3<(k:Int)):=ag
 have k3:(k:Int)<4:=ag
 have k4:(0:Int)<=k:=ag
 delta dD;go_in;go_wp2
 go_quiet (fail)
 have u:=nw w 21 a b c 0 (k:Int) nq;rw[show((21:Nat):Int)=21 from rfl]at u;generalize ((w.alloc (.cells #[aj 21,aj a,aj b,aj c] 90)).alloc (.cells #[aj 0,aj k] 115)).drewN nq=w3 at *;obtain⟨o,i0,i1,i2,i3,y0,y1⟩:=u;go_wp2_with fail
 refine du (bj ((bj H).out w3 o)) λw4 hR=>?_;have HR:=bj hR;go_wp2
 go_ret;simp_all
def DZ{mb t o nr a b c k G J bn bc x:Nat}{va:B.V}(ha:a<nr)(hb:b<nr)(r:kR w o a va)(rb:kR w o b (0,(k:Int)))(hk:k<4)(h8:w.cell? (ay mb (8+k))=some (.slice (some (ay G J)) (bn+1) bc)/\w.frozen? (ay mb (8+k))=false)(hx:w.cell? (ay G J)=some (dy x))(a7:x<256)(aE:bn+1<=bc)(W:mb≠o)(n2:G≠mb)(n3:G≠o): dD 215 #[P0 mb,aj t,dA o nr nr,jn 21 a b c] w (aj 0) λw'=>(oz (w.setCell (ay mb (8+k)) (.slice (some (ay G (if bc=1 then J else J+1))) bn (bc-1))) o a (0,(x:Int))).grownBy w' none:=by
 have lr:o<w.heap.size:=an w _ r.1;have aA:(a:Int)<nr:=ag
 have aB:o<w.heap.size+1:=ag
 obtain⟨r0,r1,r2,r3⟩:=r;obtain⟨s0,s1,_,_⟩:=rb;obtain⟨h8,z8⟩:=h8;simp only[]at s0 s1;have aH:(b:Int)<nr:=ag
 have lm:mb<w.heap.size:=an w _ h8;have a5:G<w.heap.size:=an w _ hx;have aF:mb<w.heap.size+1:=ag
 have k1:¬((k:Int)<0):=ag
 have k2:¬(3<(k:Int)):=ag
 have k3:(k:Int)<4:=ag
 have k4:(0:Int)<=k:=ag
 delta dD;go_in;go_wp2
 go_quiet (fail)
 have hN:=nw w 21 a b c 0 (k:Int) nq;rw[show((21:Nat):Int)=21 from rfl]at hN;generalize ((w.alloc (.cells #[aj 21,aj a,aj b,aj c] 90)).alloc (.cells #[aj 0,aj k] 115)).drewN nq=Z at *;obtain⟨Y,i0,i1,i2,i3,y0,y1⟩:=hN;have HG:=bj Y;obtain⟨u0,u2⟩:=bd Y (a:=ay o (a*2)) lr;obtain⟨u1,u3⟩:=bd Y (a:=ay o (a*2+1)) lr;obtain⟨u4,u5⟩:=bd Y (a:=ay mb (8+k)) lm;obtain⟨u6,_⟩:=bd Y (a:=ay G J) a5;rw[r0]at u0;rw[r1]at u1;rw[r2]at u2;rw[r3]at u3;rw[h8]at u4;rw[z8]at u5;rw[hx]at u6;have l3:w.heap.size+1<Z.heap.size:=an Z _ y0;have n4:w.heap.size≠mb:=ag
 have n5:w.heap.size+1≠mb:=ag
 have H:o<Z.heap.size:=ag
 have a0:G<Z.heap.size:=ag
 clear Y r0 r1 r2 r3 h8 z8 hx s0 s1;go_wp2_with fail
 by_cases a4:bc=1
 .subst a4;have a6:bn=0:=ag
  subst a6;go_cut [] (λwx=>Hid ((Z.setCell (ay mb (8+k)) (.slice (some (ay G J)) 0 0)).grownBy wx none))
  case first=>
   go_region
   all_goals
    go_wp2
    go_meet
    case rel=>first|exact(bo (aw _ _):World.grownBy _ _ _)|exact(aw _ _:World.grownBy _ _ _)
  case rest=>
   have y:=hcut;clear hcut;have i:=y.out;have u:(Z.setCell (ay mb (8+k)) (.slice (some (ay G J)) 0 0)).heap.size=Z.heap.size:=by simp[World.setCell]
   have v0:dS wc o (a*2)=some (aj va.1):=(bd i (a:=ay o (a*2)) (eV u H)).1.trans (by simp[go_sem,u0,W,W.symm]);have v1:dS wc o (a*2+1)=some (aj va.2):=(bd i (a:=ay o (a*2+1)) (eV u H)).1.trans (by simp[go_sem,u1,W,W.symm]);have v2:wc.frozen? (ay o (a*2))=false:=(bd i (a:=ay o (a*2)) (eV u H)).2.trans (by simp[go_sem,u2,W,W.symm]);have v3:wc.frozen? (ay o (a*2+1))=false:=(bd i (a:=ay o (a*2+1)) (eV u H)).2.trans (by simp[go_sem,u3,W,W.symm]);have v4:dS wc w.heap.size 1=some (aj a):=(bd i (a:=ay w.heap.size 1) (by rw[u];show w.heap.size<_;omega)).1.trans (by simp[go_sem,i1,n4,n4.symm]);have v5:dS wc G J=some (dy x):=(bd i (a:=ay G J) (eV u a0)).1.trans (by simp[go_sem,u6,n2,n2.symm]);have HT:Hid (∀wx,(oz wc o a (0,(x:Int))).grownBy wx none->(oz (w.setCell (ay mb (8+k)) (.slice (some (ay G J)) 0 0)) o a (0,(x:Int))).grownBy wx none):=λwx hx=>ar (fT (fT (ar (fT HG _ _) i) _ _) _ _) hx;have a2:IntKind.i64.wrap (x:Int)=x:=iU
   clear i y u u0 u1 u2 u3 u4 u5 u6 i0 i1 i2 i3 y0 y1 HG;go_wp2
   go_region
   all_goals
    go_wp2
    go_ret;refine⟨rfl,HT _ ?_⟩;first|exact aw _ _|exact bo (aw _ _)
 have aD:1<bc:=ag
 have a8:¬(bc-1=0):=ag
 go_cut [] (λwx=>Hid ((Z.setCell (ay mb (8+k)) (.slice (some (ay G (J+1))) bn (bc-1))).grownBy wx none))
 case first=>
  go_region
  all_goals
   go_wp2
   go_meet
   case rel=>first|exact(bo (aw _ _):World.grownBy _ _ _)|exact(aw _ _:World.grownBy _ _ _)
 case rest=>
  have y:=hcut;clear hcut;have i:=y.out;have u:(Z.setCell (ay mb (8+k)) (.slice (some (ay G (J+1))) bn (bc-1))).heap.size=Z.heap.size:=by simp[World.setCell]
  have v0:dS wc o (a*2)=some (aj va.1):=(bd i (a:=ay o (a*2)) (eV u H)).1.trans (by simp[go_sem,u0,W,W.symm]);have v1:dS wc o (a*2+1)=some (aj va.2):=(bd i (a:=ay o (a*2+1)) (eV u H)).1.trans (by simp[go_sem,u1,W,W.symm]);have v2:wc.frozen? (ay o (a*2))=false:=(bd i (a:=ay o (a*2)) (eV u H)).2.trans (by simp[go_sem,u2,W,W.symm]);have v3:wc.frozen? (ay o (a*2+1))=false:=(bd i (a:=ay o (a*2+1)) (eV u H)).2.trans (by simp[go_sem,u3,W,W.symm]);have v4:dS wc w.heap.size 1=some (aj a):=(bd i (a:=ay w.heap.size 1) (by rw[u];show w.heap.size<_;omega)).1.trans (by simp[go_sem,i1,n4,n4.symm]);have v5:dS wc G J=some (dy x):=(bd i (a:=ay G J) (eV u a0)).1.trans (by simp[go_sem,u6,n2,n2.symm]);have HT:Hid (∀wx,(oz wc o a (0,(x:Int))).grownBy wx none->(oz (w.setCell (ay mb (8+k)) (.slice (some (ay G (J+1))) bn (bc-1))) o a (0,(x:Int))).grownBy wx none):=λwx hx=>ar (fT (fT (ar (fT HG _ _) i) _ _) _ _) hx;have a2:IntKind.i64.wrap (x:Int)=x:=iU
  clear i y u u0 u1 u2 u3 u4 u5 u6 i0 i1 i2 i3 y0 y1 HG;go_wp2
  go_region
  all_goals
   go_wp2
   go_ret;refine⟨rfl,HT _ ?_⟩;first|exact aw _ _|exact bo (aw _ _)
def Jk{mb t J nr a b c nt tc tb z:Nat}{R:aa->Prop}{hw:Int}(ha:a<nr)(r:kR w J a (0,(z:Int)+1))(h6:w.cell? (ay mb 6)=some (dA tb nt tc))(hz:z<nt)(hn:nt<1000000000)(Y:w.cell? (ay tb (z*8+1))=some (aj hw))(H:hw≠5->∀w1,w.grownBy w1 none->eL 196 #[P0 mb,aj ((z:Int)+1),aj 4,aj 0,vA (0,-100)] w1 λw'=>R w')(H0:hw=5->∀w1,w.grownBy w1 none->R w1): dD 215 #[P0 mb,aj t,dA J nr nr,jn 19 a b c] w (aj (if z+1=t then -1 else 0)) λw'=>R w':=by
 have lr:J<w.heap.size:=an w _ r.1;have a1:(a:Int)<nr:=ag
 obtain⟨r0,r1,r2,r3⟩:=r;simp only[]at r0 r1;have lm:mb<w.heap.size:=an w _ h6;have a4:mb<w.heap.size+1:=ag
 have lt:tb<w.heap.size:=an w _ Y;have a0:¬((z:Int)+1<1):=ag
 have a2:¬((nt:Int)<z+1):=ag;have q1:=fj (n:=z) ag;have q2:(z:Int)<nt:=ag
 have q3:(0:Int)<=z:=ag;have q4:IntKind.i64.wrap (z:Int)=z:=iU;have q5:IntKind.i64.wrap ((z:Int)+1)=(z:Int)+1:=iU;change Hid _ at H H0;delta dD;go_in;go_wp2
 go_quiet (fail)
 have hN:=nw w 19 a b c 0 ((z:Int)+1) nq;rw[show((19:Nat):Int)=19 from rfl]at hN;generalize ((w.alloc (.cells #[aj 19,aj a,aj b,aj c] 90)).alloc (.cells #[aj 0,aj ((z:Int)+1)] 115)).drewN nq=w3 at *;obtain⟨o,i0,i1,i2,i3,y0,y1⟩:=hN;have u6:=(bd o (a:=ay mb 6) lm).1.trans h6;have u1:=(bd o (a:=ay tb (z*8+1)) lt).1.trans Y;clear h6 Y r0 r1 r2 r3;by_cases Z:hw=5
 .have G:=bj (H0 Z w3 o);subst Z;clear H H0 o;by_cases i:z+1=t
  .subst i;go_wp2
   go_ret;exact⟨eB,G⟩
  have u:¬((z:Int)+1=(t:Int)):=ag;have W:(((z:Int)+1) == (t:Int))=false:=eV dX u;change Hid _ at i;go_wp2
  go_ret;exact⟨by first|rfl|(rw[au i];rfl),G⟩
 have HC:=bj (H Z w3 o);clear H H0 o;by_cases i:z+1=t
 .subst i;go_wp2_with fail
  refine du HC λw4 hR=>?_;change Hid _ at hR;go_wp2
  go_ret;exact⟨eB,hR⟩
 have u:¬((z:Int)+1=(t:Int)):=ag;have W:(((z:Int)+1) == (t:Int))=false:=eV dX u;have i:=bj i;clear i;go_wp2_with fail
 refine du HC λw4 hR=>?_;have hR:=bj hR;clear hR;go_wp2
 go_ret;exact⟨by first|rfl|(rw[au i];rfl),hR⟩
def D2{mb t o nr a b c nt tc tb z:Nat}{va:B.V}{R:aa->Prop}{hw:Int}(ha:a<nr)(hb:b<nr)(r:kR w o a va)(rb:kR w o b (0,(z:Int)+1))(G:w.cell? (ay mb 6)=some (dA tb nt tc))(hz:z<nt)(hn:nt<1000000000)(a1:z+1≠t)(y:w.cell? (ay tb (z*8+1))=some (aj hw))(h5:hw≠5)(H:∀w1,w.grownBy w1 none->eL 228 #[P0 mb,aj t,aj 4,aj ((z:Int)+1),aj a] w1 λw'=>R w'): dD 215 #[P0 mb,aj t,dA o nr nr,jn 18 a b c] w (aj (-1)) λw'=>R w':=by
 have lr:o<w.heap.size:=an w _ r.1;have a2:(a:Int)<nr:=ag
 have a4:o<w.heap.size+1:=ag;obtain⟨r0,r1,r2,r3⟩:=r;obtain⟨W,s1,_,_⟩:=rb;simp only[]at W s1;have a7:(b:Int)<nr:=ag
 have lm:mb<w.heap.size:=an w _ G;have a5:mb<w.heap.size+1:=ag
 have lt:tb<w.heap.size:=an w _ y;have a0:¬((z:Int)+1<1):=ag
 have a3:¬((nt:Int)<z+1):=ag;have q1:=fj (n:=z) ag;have q2:(z:Int)<nt:=ag
 have q3:(0:Int)<=z:=ag;have q4:IntKind.i64.wrap (z:Int)=z:=iU;have q5:IntKind.i64.wrap ((z:Int)+1)=(z:Int)+1:=iU;have u:¬((z:Int)+1=(t:Int)):=ag;have Z:(((z:Int)+1) == (t:Int))=false:=eV dX u;change Hid _ at H;delta dD;go_in;go_wp2
 go_quiet (fail)
 have J:=nw w 18 a b c 0 ((z:Int)+1) nq;rw[show((18:Nat):Int)=18 from rfl]at J;generalize ((w.alloc (.cells #[aj 18,aj a,aj b,aj c] 90)).alloc (.cells #[aj 0,aj ((z:Int)+1)] 115)).drewN nq=w3 at *;obtain⟨i,i0,i1,i2,i3,y0,y1⟩:=J;have u6:=(bd i (a:=ay mb 6) lm).1.trans G;have u1:=(bd i (a:=ay tb (z*8+1)) lt).1.trans y;have HC:=bj (H w3 i);clear G y r0 r1 r2 r3 W s1 i H;go_wp2_with fail
 refine du HC λw4 hR=>?_;change Hid _ at hR;go_wp2
 go_ret;exact⟨rfl,hR⟩
end D
namespace D
open F
variable {w:aa}
def EG(t k:Int)(y:0<=t)(o:t<=9223372036854775807)(k0:-9223372036854775808<=k)(k1:k<=9223372036854775807):Calls prog 141 #[.int .i64 t,.int .i64 k] w λe w'=>e=.returned (.int .i64 (B.iJ t k))/\w'=w:=by
 by_cases i:k<0
 .have e:B.iJ t k=t:=by unfold B.iJ;split<;>(try split)<;>omega
  rw[e];go_in;go_wp2_with fail
  go_ret;exact⟨rfl,rfl⟩
 by_cases u:t+k > 9223372036854775807
 .have e:B.iJ t k=9223372036854775807:=by unfold B.iJ;split<;>(try split)<;>omega
  have hw:wrap64 (t+k)=t+k-18446744073709551616:=by unfold wrap64;omega
  have hn:t+k-18446744073709551616<0:=ag;rw[e];go_in;go_wp2_with fail
  go_ret;exact⟨rfl,rfl⟩
 have e:B.iJ t k=t+k:=by unfold B.iJ;split<;>(try split)<;>omega
 have hw:IntKind.i64.wrap (t+k)=t+k:=by simp[IntKind.wrap,IntKind.bits,IntKind.signed];omega
 have hn:¬(t+k<0):=ag;rw[e];go_in;go_wp2_with fail
 go_ret;exact⟨rfl,rfl⟩
end D
namespace D
open F
variable {p:dL}{d:Dp}{K:Nat}{s:Pl}{m m':Dm}{g g':Dg}{w w':aa}{ρ:Nat → Nat}
def Tryz.Bn:(prog.info? 233).map (λi=>(i.zero,i.size,i.bytes))=some (some (.agg #[.slice none 0 0,aj 0]),2,32):=by kernel_rfl
def Tryz.underlying108:prog.underlying 108=some (.slice 233):=by kernel_rfl
def BG(d:Dp)(m:Dm)(ok:Bool):Prop:=((gl d m).fu=false/\ok=decide (0<d.n))\/∃N:Nat,lZ d m N/\ok=decide (N<d.n)
def Da(d:Dp)(m:Dm)(g:Dg)(w:aa)(t n a ty:Nat)(l:List B.V)(v:Int)(w':aa):Prop:=
 (BG d m false/\v=-2/\Tr d m g w (m.iY (gl d m)) g w')\/(BG d m true/\v=0/\∃g',Tr d m g w (((m.iY (gl d m)).cell ty l).dJ t n ((fU m t n).set a (m.nc+1,0))) g' w')
def vN(d:Dp)(m:Dm):(gl d m).all=m.G.all:=by unfold gl;split<;>rfl
def ui(d:Dp)(m:Dm):(gl d m).sure=m.G.sure:=by unfold gl;split<;>rfl
def uj(d:Dp)(m:Dm):(gl d m).nF=m.G.nF:=by unfold gl;split<;>rfl
def Ft{m1:Dm}{Z W w6:aa}{G cb cc ty:Nat}{l:List B.V}(h5:Tr d m g w m1 g Z)(J:Z.grownBy W none)(hS:Full Z G 115 (l.length*2) (l.length*2) (eQ (mW l)))(hn:¬eH d m1 g G)(hs:w.heap.size<=G)(ho:w6.ownsRow 0 233 2 (dA cb (m1.nc+1) cc) (m1.nc+1) (rowP (m1.nc*2) (cE m1 g)++[dA G l.length l.length,jk ((ty:Int)-1)]))(u:W.grownBy w6 (Value.slice (g.ro 3 0).1 m1.nc (g.ro 3 0).2).ownBlock)(a6:lR W.heap.size (.slice (g.ro 3 0).1 m1.nc (g.ro 3 0).2) (dA cb (m1.nc+1) cc)): Tr d m g w (m1.nE ty l) ((g.at 3 0 (some (ay cb 0),cc)).slt (m1.nc+1) G) (w6.setCell (ay g.mb 12) (dA cb (m1.nc+1) cc)):=by
 have hr:=h5.r;have a1:(Value.slice (g.ro 3 0).1 m1.nc (g.ro 3 0).2).ownBlock=fi (g.ro 3 0).1:=dF _ _ _;rw[a1]at u;have a0:∀k,fi (g.ro 3 0).1=some k->k≠g.mb:=λk H=>hr.ne (x:=3) (y:=0) (z:=0) (x':=0) (y':=0) (z':=0) (oQ ag) rfl H rfl ag;have i:Z.grownBy w6 (fi (g.ro 3 0).1):=⟨u.os.trans J.os,u.tape.trans J.tape,u.output.trans J.output,dU J.size u.size,λk H hn=>(u.block k (dm H J.size) hn).trans (J.block k H eR)⟩;have Y:fi (g.ro 3 0).1=some cb\/(Z.heap.size<=cb):=by
  rcases a6 with e|⟨b',e,h2⟩
  .left
   rw[<-a1,<-e];rfl
  right
  have:cb=b':=by injection e
  have:=J.size;omega
 have a7:cb≠g.mb:=by
  rcases Y with e|e
  .grind
  have:=hr.M.lt;omega
 have a4:G<Z.heap.size:=hS.lt;have a2:cb≠G:=by
  rcases Y with e|e
  .exact λe'=>hn ⟨3,0,0,by rw[ie (oQ ag),<-e'];exact e⟩
  omega
 refine Tr.nE h5 (bp (S:=λk=>k=g.mb\/fi (g.ro 3 0).1=some k) (a:=ay g.mb 12) ⟨i.os,i.tape,i.output,i.size,λk H hn=>i.block k H (λe=>hn (ah e.symm))⟩ (af (af rfl)) _) ((hr.M.block (i.block g.mb hr.M.lt (λe=>a0 g.mb e.symm rfl))).eC 12 _) ?_ ?_ (Y.imp id (λe=>⟨hr.fresh e,ag⟩)) ⟨hn,hs⟩ a2
 .grind[dQ,Below.heap_setCell,Value.ownBlock]
 refine(hS.block (i.block G a4 (λe=>hn ⟨3,0,0,by rw[ie (oQ ag)];exact e.symm⟩))).block (ab _ _ _ _ (λe=>hn ⟨0,0,0,by rw[ie (oQ ag)];exact e⟩))
def Mr{t n nr a b c:Nat}(hb:b<=8)(h:dZ d m g w)(hC:Dd d m)(ht:mY m t)(hi:n<(m.T t).fr.length)(hr:d.rg (fU m t n).f=nr)(ha:a<nr)(hA:m.G.all<1000000000/\m.G.sure<1000000000/\m.G.nF<1000000000): Calls prog 214 #[P0 g.mb,dA (g.rb t n) nr nr,jn 9 a b c] w λe w'=>∃v:Int,e=.returned (aj v)/\Da d m g w t n a 0 (List.replicate b (0,0)) v w':=by
 obtain⟨i0,aU,aV,aQ,aX⟩:=info_parts Tryz.Bn;obtain⟨i5,b4,b5,b2,aW⟩:=info_parts Tryz.tM;have HH:=bj h;have HR:Hid (∀w1,w.grownBy w1 none->Calls prog 225 #[P0 g.mb] w1 λe w'=>∃ok:Bool,e=.returned (.bool ok)/\Tr d m g w1 (m.iY (gl d m)) g w'/\BG d m ok):=λw1 hg=>(Is (h.kept hg) hC).mono (λe w' hh=>by
  obtain⟨ok,e1,e2,e3⟩:=hh;exact⟨ok,e1,e2,e3⟩)
 have aT:=bj hC.n2;have HT:=bj (bh ht (bh hi hr));have HA:=bj hA;have bF:g.mb<w.heap.size:=h.M.lt;obtain⟨l,hl⟩:∃l:List B.V,l=List.replicate b (0,0):=⟨_,rfl⟩;rw[<-hl];have a6:l.length=b:=by rw[hl,kV]
 have b6:Hid (∀j,eQ (λ_=>(0,0)) j=eQ (mW l) j):=λj=>by
  have:mW l=λ_=>(0,0):=by
   funext i
   unfold mW;rw[hl,cr,List.getElem?_replicate];split<;>rfl
  rw[this]
 clear h hC ht hi hr hA hl;go_in;go_wp2_with (at_make;go_loud (refine wpList_make_full _ rfl _ _ 161 rfl 0 115 i5 _ 2 Tryz.underlying161 b4 b5 b2 _ _ _ _ b rfl rfl rfl rfl (kr aW) pY (dk _) ?_))
 intro Z a3 a1;have hz:=a1.size;simp at hz;have a9:=uD a3;have x0:Z.heap[w.heap.size]? = some (.cells #[aj ((9:Nat):Int),aj (a:Int),aj (b:Int),aj (c:Int)] 90 (0,0)):=da a1 (bl _ _) im;have a0:dS Z w.heap.size 0=some (aj ((9:Nat):Int)):=fy x0
 have aE:w.heap.size<Z.heap.size:=ag
 have lX:w.heap.size+1<=Z.heap.size:=ag
 have KW:Hid ((w.alloc (.cells #[aj ((9:Nat):Int),aj (a:Int),aj (b:Int),aj (c:Int)] 90)).grownBy (Z.alloc (.cells #[dA (w.heap.size+1) b b,aj (-1)] 233)) none):=ax a1 _;have XW:Hid ((Z.alloc (.cells #[dA (w.heap.size+1) b b,aj (-1)] 233)).heap[w.heap.size]? = some (.cells #[aj ((9:Nat):Int),aj (a:Int),aj (b:Int),aj (c:Int)] 90 (0,0))):=(av _ _ _ aE).trans x0;have YW:Hid ((Z.alloc (.cells #[dA (w.heap.size+1) b b,aj (-1)] 233)).heap[Z.heap.size]? = some (.cells #[dA (w.heap.size+1) b b,aj (-1)] 233 (0,0))):=bl _ _;have SW:Hid (Full (Z.alloc (.cells #[dA (w.heap.size+1) b b,aj (-1)] 233)) (w.heap.size+1) 115 (l.length*2) (l.length*2) (eQ (mW l))):=by
  have h1:=(a9.block (av Z (.cells #[dA (w.heap.size+1) b b,aj (-1)] 233) _ a9.lt)).congr (λj _=>b6.out j);show Full _ _ _ (l.length*2) (l.length*2) _;rw[a6];exact h1
 clear a3 a1 a9 x0;go_wp2_with fail
 clear a0;generalize (Z.alloc (.cells #[dA (w.heap.size+1) b b,aj (-1)] 233))=W at *;have a7:Z.heap.size≠w.heap.size+1:=by
  intro e;have h1:=SW.out;obtain⟨bA,h2,_⟩:=h1;rw[<-e,YW.out]at h2;injection h2 with h2;injection h2 with _ h2 _;exact dp h2 ek
 obtain⟨X,hX⟩:∃X,X=Z.heap.size:=⟨_,rfl⟩;rw[<-hX]at lX YW a7 ⊢;obtain⟨sN,aD⟩:∃x,x=w.heap.size+1:=⟨_,rfl⟩;have b9:w.heap.size+1<=sN:=ag
 rw[<-aD]at YW SW a7;clear hX aD aE hz;clear Z;refine(HR.out W (ar (ax (aw _ _) _) KW.out)).mono ?_;rintro e J ⟨ok,rfl,h5,aK⟩;have hW:=KW.out.size;simp at hW;have mX:∀j,w.heap.size<=j->j<W.heap.size->J.heap[j]? = W.heap[j]?:=λj h1 h2=>h5.o.same h2 (HH.out.fresh h1);have X5:=bj ((mX _ (bq _) ag).trans XW.out);have Y5:=bj ((mX X ag (ch YW.out)).trans YW.out);have S5:=bj (SW.out.block (mX sN ag SW.out.lt));have T5:=bj (h5.ahead KW.out);have N5:Hid (¬eH d (m.iY (gl d m)) g sN):=λhm=>by
  rcases h5.m sN hm with h1|h1
  .exact HH.out.fresh ag h1
  have:=SW.out.lt;omega
 change Hid _ at aK;clear h5 mX XW YW SW KW HR
 cases ok with
 | false=>
  go_wp2
  go_ret;exact⟨-2,rfl,af ⟨aK.out,rfl,T5.out.ahead (ax (aw _ _) _)⟩⟩
 | true=>
  obtain⟨aB,aN⟩:=T5.out.r.mc 12 ag (v:=.slice (g.ro 3 0).1 m.nc (g.ro 3 0).2) rfl;have aG:Hid (J.ownsRow 0 233 2 (.slice (g.ro 3 0).1 m.nc (g.ro 3 0).2) m.nc (rowP (m.nc*2) (cE (m.iY (gl d m)) g))):=T5.out.r.Cw;have b0:dS J X 0=some (dA sN b b):=fy Y5.out
  have b1:dS J X 1=some (aj (-1)):=fy Y5.out
  have l5:g.mb<J.heap.size:=an J _ aB;have aY:X<J.heap.size:=an J _ b0;have aP:w.heap.size<J.heap.size:=ch X5.out;have a5:Hid (∀j,(Value.slice (g.ro 3 0).1 m.nc (g.ro 3 0).2).ownBlock=some j->j<J.heap.size/\j≠g.mb/\j≠X/\j≠w.heap.size):=λj Y=>by
   have aH:fi (g.ro 3 0).1=some j:=by rw[<-dF (g.ro 3 0).1 m.nc (g.ro 3 0).2];exact Y
   have hm:eH d m g j:=⟨3,0,0,by rw[ie (oQ ag)];exact aH⟩;have:=HH.out.lt hm;exact⟨ag,HH.out.ne (x:=3) (y:=0) (z:=0) (x':=0) (y':=0) (z':=0) (oQ ag) rfl aH rfl ag,ag,ag⟩
  have aM:Hid (∀w':aa,w'.heap[g.mb]? = J.heap[g.mb]?->w'.heap[X]? = J.heap[X]?->dS w' g.mb 12=some (.slice (g.ro 3 0).1 m.nc (g.ro 3 0).2)/\w'.frozen? (ay g.mb 12)=false/\dS w' X 0=some (dA sN b b)/\dS w' X 1=some (aj (-1))):=λw' e1 e2=>⟨(az (a:=ay g.mb 12) e1).trans aB,(dr (a:=ay g.mb 12) e1).trans aN,(az (a:=ay X 0) e2).trans b0,(az (a:=ay X 1) e2).trans b1⟩;have aA:Hid (∀(o:Obj) (j:Nat),j<J.heap.size->(J.drew.alloc o).heap[j]? = J.heap[j]?):=λo j Y=>av J.drew o j Y;have bD:m.nc+1<=1000000000:=gp aT.out
  clear lX hW a7;go_wp2
  go_cut [] (λwx=>Hid (∃g2,Tr d m g (w.alloc (.cells #[aj ((9:Nat):Int),aj (a:Int),aj (b:Int),aj (c:Int)] 90)) ((m.iY (gl d m)).nE 0 l) g2 wx/\g2.rb=g.rb/\wx.heap[w.heap.size]? = some (.cells #[aj ((9:Nat):Int),aj (a:Int),aj (b:Int),aj (c:Int)] 90 (0,0))))
  case first=>
   go_region_law (refine fD _ rfl (.tmp 44) (.tmp 46) 108 rfl 233 i0 _ 2 32 Tryz.underlying108 aU aV aQ aX rfl ek (g.ro 3 0).1 m.nc (g.ro 3 0).2 (rowP (m.nc*2) (cE (m.iY (gl d m)) g)) mB (dQ aG.out (λj Y=>aA.out _ _ (a5.out j Y).1)) (ay J.heap.size 0) 1 1 [dA sN b b,aj (-1)] mB rfl (by intro j u Y;match j,Y with|0,Y=>(simp at Y;subst Y;simp[Addr.add,go_sem])|1,Y=>(simp at Y;subst Y;simp[Addr.add,go_sem])) xI pY ag ek ?_;intro v' w6 ho a2 aF;obtain⟨cb,aR,rfl⟩:=ee ho ag;have aJ:=bj ho;have b3:=bj a2;have aS:=bj aF;have KO:Hid (∀j,j<J.heap.size->(j=g.mb\/j=X\/j=w.heap.size)->w6.heap[j]? = J.heap[j]?):=(λj Y hn=>(a2.block j (by first|(simp;omega)|omega) (λh=>by have h9:=a5.out j h.symm;omega)).trans (aA.out _ _ Y));obtain⟨bC,sz,sa,sb⟩:=aM.out w6 (KO.out _ l5 (af rfl)) (KO.out _ aY (ah (af rfl)));clear ho a2 aF)
   all_goals
    go_wp2
    go_meet
    case rel=>
     refine⟨_,Ft (l:=l) (ty:=0) (cb:=cb) (cc:=aR) T5.out (ax (bo (aw J none)) (.cells #[dA sN b b,aj (-1)] 233)) S5.out N5.out fH (by first|(rw[a6];exact aJ.out)|(rw[a6,show(((b+1:Nat):Int)-1)=(b:Int) by omega];exact aJ.out)) b3.out aS.out,rfl,?_⟩;rw[ab _ _ _ _ (by show w.heap.size≠g.mb;omega),KO.out _ aP (ah (ah rfl))];exact X5.out
  case rest=>
   obtain⟨g2,h6,H,x6⟩:=hcut.out;have aO:=h6.b;have a8:=bj (IJ h6.r (by show(gl d m).all<_;rw[vN];exact HA.out.1) (by show(gl d m).sure<_;rw[ui];exact HA.out.2.1) (by show(gl d m).nF<_;rw[uj];exact HA.out.2.2));rw[aO]at a8;have aL:Hid (¬eH d ((m.iY (gl d m)).nE 0 l) g2 w.heap.size):=λhm=>by
    rcases h6.m _ hm with h1|h1
    .exact HH.out.fresh (bq _) h1
    rw[World.size_alloc]at h1;omega
   have H6:=bj (bh h6 (bh H x6));clear h6 H x6 hcut aB aN aG b0 b1 a5 aM aA X5 Y5 S5 T5 N5;go_wp2_with fail
   refine du a8 λw7 h7=>?_;obtain⟨h6,H,x6⟩:=H6.out;have h8:=h6.trans h7;have hT:=HT.out;have y7:=(h7.o.same (ch x6) aL.out).trans x6;have e1:dS w7 w.heap.size 1=some (aj (a:Int)):=fy y7
   obtain⟨aZ,_⟩:=h8.r.mc 12 ag (v:=.slice (g2.ro 3 0).1 (m.nc+1) (g2.ro 3 0).2) rfl;rw[aO]at aZ;have hF:=h8.r.R (t:=t) (i:=n) hT.1 hT.2.1;have a4:Full w7 (g.rb t n) 115 (nr*2) (nr*2) (eQ (fU m t n).R):=by
    have h9:=hF;rw[H]at h9;rw[<-hT.2.2];exact h9
   obtain⟨r0,r1,r2,r3⟩:=Jn a4 ha;have H8:=bj (bh h8 H);have b8:(a:Int)<(nr:Int):=ag
   clear h6 H x6 h8 h7 hT y7 hF a4 a8 H6 aL;generalize (g2.ro 3 0).1=ca at *;generalize (g2.ro 3 0).2=cc at *;go_wp2
   go_cut [] (λwx=>Hid ((oz w7 (g.rb t n) a (m.nc+1,0)).grownBy wx none))
   case first=>
    go_region
    all_goals
     go_wp2
     go_meet
     case rel=>first|exact(bo (aw _ _):World.grownBy _ _ _)|exact(aw _ _:World.grownBy _ _ _)
   case rest=>
    have aC:=hcut;clear hcut;go_wp2
    go_ret;obtain⟨h8,H⟩:=H8.out;have h9:=h8.r.se (t:=t) (i:=n) HT.out.1 HT.out.2.1 a (m.nc+1,0);rw[H]at h9;exact⟨0,rfl,ah ⟨aK.out,rfl,g2,((h8.trans h9).kept aC.out).ahead (ax (aw _ _) _)⟩⟩
end D
namespace D
open F
def iO(p:dL)(d:Dp)(K:Nat)(s:Pl)(t:Nat)(m:Dm)(g:Dg)(w:aa)(why:Int)(s':Pl)(v:Int)(w':aa):Prop:=
 ∃ρ' m' g',Tr d m g w m' g' w'/\((v=-2/\why=0/\(∃kd1,s'=(s.vk kd1).mf t)/\eF p (K+1) s m' ρ') \/
  (eF p (K+1) s' m' ρ'/\((0<v/\why=v)\/(v=0/\why=0/\(s'.T t).run=true)\/(v=-1/\why=0/\(s'.T t).run=false))))
variable {p:dL}{d:Dp}{K:Nat}{s s':Pl}{m m':Dm}{g g':Dg}{w w':aa}{ρ ρ':Nat → Nat}{t tb fb n nr a b c:Nat}{why:Int}
theorem iO.go(o:Tr d m g w m' g' w')(i:eF p K s' m' ρ')(e:(s'.T t).run=true):iO p d K s t m g w 0 s' 0 w':=
 ⟨ρ',m',g',o,ah ⟨i.mono ag,ah (af ⟨rfl,rfl,e⟩)⟩⟩
def iO.stop(o:Tr d m g w m' g' w')(i:eF p (K+1) s' m' ρ')(e:(s'.T t).run=false):iO p d K s t m g w 0 s' (-1) w':=
 ⟨ρ',m',g',o,ah ⟨i,ah (ah ⟨rfl,rfl,e⟩)⟩⟩
theorem iO.fail(h:dZ d m g w)(o:w.grownBy w' none)(i:eF p K s m ρ)(e:0<why):iO p d K s t m g w why s why w':=
 ⟨ρ,m,g,(Tr.refl h).kept o,ah ⟨i.mono ag,af ⟨e,rfl⟩⟩⟩
theorem iO.ahead{w1:aa}{v:Int}(i:w.grownBy w1 none)(h:iO p d K s t m g w1 why s' v w'):iO p d K s t m g w why s' v w':=by
 obtain⟨ρ',m',g',o,e⟩:=h;exact⟨ρ',m',g',o.ahead i,e⟩
theorem oV.goes(hQ:oV p d s m g w ρ t tb fb n nr)(h:dZ d m g w)(hS:eF p K s m ρ)(hR:Rn p s t)(a:Nat){v:B.V}(e:dW p s v)(o:(oz w (g.rb t n) a (tr ρ v)).grownBy w' none):iO p d K s t m g w 0 (s.dJ t (de s t) ((bw s t).set a v)) 0 w':=by
 obtain⟨m',g',u,i⟩:=hQ.set h hS hR a e o;grind[iO.go,gI,de,F.Rn.run]
theorem oV.Br(hQ:oV p d s m g w ρ t tb fb n nr)(h:dZ d m g w)(hS:eF p K s m ρ)(hR:Rn p s t)(a:Nat)(x:Int)(e:(oz w (g.rb t n) a (0,x)).grownBy w' none):iO p d K s t m g w 0 (qv s t a x) 0 w':=
 hQ.goes h hS hR a (dW.num x) (by grind[oZ])
def eF.DA(hS:eF p K s m ρ)(J:Ok p s){x y:B.V}(hx:dW p s x)(H:dW p s y):tr ρ x=tr ρ y↔x=y:=by
 refine⟨λe=>?_,λe=>by rw[e]⟩;have u:=ti J hS hx;have G:=ti J hS H;by_cases i:x.1=0
 .grind
 have o:y.1≠0:=λW=>i (u.1.1 eR);have Y:x.2=y.2:=by rw[<-u.2,<-G.2,e]
 rw[qI i,qI o]at e;injection e with e _;exact fV (hS.I _ _ (B.pR.vO hx i) (B.pR.vO H o) e) Y
def B4{s:Pl}{t:Nat}(hi:de s t<(s.T t).fr.length):s.dJ t (de s t) (bw s t)=s:=by
 have:(s.T t).fr.set (de s t) (bw s t)=(s.T t).fr:=by
  refine List.ext_getElem? (λj=>?_);by_cases e:de s t=j
  .subst e;rw[List.getElem?_set_self hi];unfold bw dq;grind
  rw[List.getElem?_set_ne e]
 unfold Pl.dJ;rw[this];unfold Pl.dx;have o:(λi=>if i=t then s.T t else s.T i)=s.T:=by
  funext i
  by_cases e:i=t
  .grind
  rw[au e]
 simp_all
section
variable (hP:PD p d)(h:dZ d m g w)(hS:eF p K s m ρ)(hR:Rn p s t)(hQ:oV p d s m g w ρ t tb fb n nr)
include h hS hR hQ
theorem Ow(i:a<nr)(u:b<256)(o:c<256):Calls prog 194 #[P0 g.mb,aj t,dA (g.rb t n) nr nr,jn 0 a b c] w λe w'=>∃v:Int,e=.returned (aj v)/\iO p d K s t m g w 0 (qv s t a (B.wide b c)) v w':=by
 refine du (Oh i u o (hQ.rc i)) λw' y=>?_;grind[D.oV.Br]
theorem Ov(u:a<nr)(o:b<nr)(i:b<256)(y:c<256):Calls prog 194 #[P0 g.mb,aj t,dA (g.rb t n) nr nr,jn 1 a b c] w λe w'=>∃v:Int,e=.returned (aj v)/\iO p d K s t m g w 0 (s.dJ t (de s t) ((bw s t).set a ((bw s t).R b))) v w':=by
 refine du (Og u o i y (hQ.rc u) (hQ.rc o)) λw' G=>?_;grind[D.oV.goes,F.Rn.nM,D.oV.r2]
def Hh{o:Nat}(ho:o=2\/o=3\/o=4\/o=5)(Z:a<nr)(Y:b<nr)(J:c<nr)(W:b<256)(H:c<256)(hi:xT s t o a b c why s'):Calls prog 194 #[P0 g.mb,aj t,dA (g.rb t n) nr nr,jn o a b c] w λe w'=>∃v:Int,e=.returned (aj v)/\iO p d K s t m g w why s' v w':=by
 have gb:=ti hR.ok hS (hR.nM (a:=b) (eV hQ.r2 Y));have gc:=ti hR.ok hS (hR.nM (a:=c) (eV hQ.r2 J));refine(M3 ho Z Y J W H (hQ.rc Z) (hQ.rc Y) (hQ.rc J)).mono ?_;rintro e w' (⟨⟨e1,e2⟩,rfl,G⟩|⟨hn,rfl,G⟩)
 .have u:=gb.1.1 e1;have i:=gc.1.1 e2;rw[ox u,ox i]at G;rcases hi with⟨_,rfl,rfl⟩|⟨y,_⟩
  .grind[D.oV.Br]
  exact dp ⟨u,i⟩ y
 rcases hi with⟨y,_⟩|⟨_,rfl,rfl⟩
 .exact dp ⟨gb.1.2 y.1,gc.1.2 y.2⟩ hn
 grind[iO.fail]
theorem Ou(H:a<nr)(y:b<nr)(u:c<nr)(o:b<256)(i:c<256):Calls prog 194 #[P0 g.mb,aj t,dA (g.rb t n) nr nr,jn 6 a b c] w λe w'=>∃v:Int,e=.returned (aj v)/\iO p d K s t m g w 0 (qv s t a (if(bw s t).R b=(bw s t).R c then 1 else 0)) v w':=by
 have G:=hS.DA hR.ok (hR.nM (a:=b) (eV hQ.r2 y)) (hR.nM (a:=c) (eV hQ.r2 u));refine du (Of H y u o i (hQ.rc H) (hQ.rc y) (hQ.rc u)) λw' W=>?_;refine⟨0,rfl,hQ.Br h hS hR a _ ?_⟩;grind
def Nq(i:a<nr)(u:b<256)(o:c<256):Calls prog 194 #[P0 g.mb,aj t,dA (g.rb t n) nr nr,jn 22 a b c] w λe w'=>∃v:Int,e=.returned (aj v)/\iO p d K s t m g w 0 (qv s t a s.clk) v w':=by
 refine du (M4 i u o (hQ.rc i) (h.mc 5 ag rfl).1 (h.M.ne hQ.F ek)) λw' y=>?_;grind[D.oV.Br,D.eF.ck]
theorem Ot(G:b<256)(y:c<256):Calls prog 194 #[P0 g.mb,aj t,dA (g.rb t n) nr nr,jn 7 a b c] w λe w'=>∃v:Int,e=.returned (aj v)/\iO p d K s t m g w 0 (s.dJ t (de s t) { bw s t with nx:=256*b+c }) v w':=by
 refine(Oe (R:=λw'=>iO p d K s t m g w 0 (s.dJ t (de s t) { bw s t with nx:=256*b+c }) 0 w') G y (λw1 i=>?_)).mono ?_
 .refine du (Iz (h.kept i) hQ.dt (hQ.kept h i).T hQ.n20 (hS.small hR.ok).1 _) λw' o=>?_;have u:=hS.nx hR.lv hR.fw.n1 (256*b+c);rw[hQ.tp,hQ.tf]at u;exact⟨rfl,iO.go (o.ahead i) u ((gI s t (de s t) t _).2.2.1.trans hR.run)⟩
 grind
theorem Oq(o:a<nr)(Z:b<256)(Y:c<256):Calls prog 194 #[P0 g.mb,aj t,dA (g.rb t n) nr nr,jn 8 a b c] w λe w'=>∃v:Int,e=.returned (aj v)/\iO p d K s t m g w 0 (s.dJ t (de s t) { bw s t with nx:=if(bw s t).R a=(0,0) then 256*b+c else(bw s t).nx }) v w':=by
 have u:=hS.DA hR.ok (hR.nM (a:=a) (eV hQ.r2 o)) (y:=(0,0)) (dW.num 0);rw[oZ]at u;refine(Od (R:=λw'=>iO p d K s t m g w 0 (s.dJ t (de s t) { bw s t with nx:=if(bw s t).R a=(0,0) then 256*b+c else(bw s t).nx }) 0 w') o Z Y (hQ.rc o) (λw1 G i=>?_) (λw1 G i=>?_)).mono ?_
 .refine du (Iz (h.kept i) hQ.dt (hQ.kept h i).T hQ.n20 (hS.small hR.ok).1 _) λw' H=>?_;have J:=hS.nx hR.lv hR.fw.n1 (256*b+c);rw[hQ.tp,hQ.tf]at J;rw[bf (u.1 G)];exact⟨rfl,iO.go (H.ahead i) J ((gI s t (de s t) t _).2.2.1.trans hR.run)⟩
 .rw[au (λW=>G (u.2 W))];show iO p d K s t m g w 0 (s.dJ t (de s t) (bw s t)) 0 w1;rw[B4 hR.hi];exact iO.go ((Tr.refl h).kept i) hS hR.run
 grind
include hP
def Nt(u:a<nr)(W:b<256)(J:c<256)(he:m.ev.length<=100000):Calls prog 194 #[P0 g.mb,aj t,dA (g.rb t n) nr nr,jn 14 a b c] w λe w'=>∃v:Int,e=.returned (aj v)/\iO p d K s t m g w 0 (s.back t ((bw s t).R a)) v w':=by
 have G:=od hR.ok.lw hR.ht ((bw s t).R a);refine(M6 (R:=λw'=>iO p d K s t m g w 0 (s.back t ((bw s t).R a)) (if decide (de s t=0)=true then -1 else 0) w') (f:=decide (de s t=0)) u W J (hQ.rc u) (λw1 y=>?_)).mono ?_
 .refine du (IE hP (h.kept y) hS hR.ok hR.lv hR.wh (hR.nM (a:=a) (eV hQ.r2 u)) he) ?_;rintro w' ⟨m',g',i,H⟩;refine⟨rfl,?_⟩;by_cases o:de s t=0
  .rw[bf eR];exact iO.stop (i.ahead y) (H.mono ag) (G.1 o)
  rw[au eR];exact iO.go (i.ahead y) H ((G.2 o).1.trans hR.run)
 grind
omit hP in
def Nr(y:a<nr)(J:b<256)(H:c<256)(he:m.ev.length<=100000):Calls prog 194 #[P0 g.mb,aj (t:Int),dA (g.rb t n) nr nr,jn 20 a b c] w λe w'=>∃v:Int,e=.returned (aj v)/\iO p d K s t m g w (jU s t a).1 (jU s t a).2 v w':=by
 have G:=ti hR.ok hS (hR.nM (a:=a) (eV hQ.r2 y));refine(M5 (R:=λw'=>((bw s t).R a).1=0->iO p d K s t m g w 0 (s.told 1 t ((bw s t).R a).2) 0 w') y J H (hQ.rc y) (λw1 o=>?_)).mono ?_
 .refine du (DD 1 t _ (h.kept o) he) ?_;rintro w' ⟨g',u⟩;refine⟨rfl,λi=>?_⟩;rw[ox i]at u;exact iO.go (u.ahead o) (hS.told 1 t _) hR.run
 unfold jU;rintro e w' (⟨i,rfl,u⟩|⟨i,rfl,o⟩)
 .grind
 rw[au (λe=>i (G.1.2 e))];grind[iO.fail]
end
