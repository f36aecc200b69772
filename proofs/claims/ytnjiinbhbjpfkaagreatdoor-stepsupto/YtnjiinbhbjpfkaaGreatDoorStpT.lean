import Derived.Test.YtnjiinbhbjpfkaaGreatDoorStpS
set_option maxRecDepth 100000
set_option maxHeartbeats 0
set_option linter.all false
namespace Go.Proofs.YtnjiinbhbjpfkaaGreatDoor
open Go.RowKit Go.Proofs.Tryz
namespace D
open F
variable {p : dz} {d : Dp} {K : Nat} {s : Pl} {m m' : Dm} {g g' : Dg} {w w' : World} {ρ : Nat → Nat}
def oU(w:World)(r a:Nat)(v:B.V):Prop:=w.cell? ⟨r,a*2,none⟩=some (.int .i64 (v.1:Int))/\w.cell? ⟨r,a*2+1,none⟩=some (.int .i64 v.2)/\w.frozen? ⟨r,a*2,none⟩=false/\w.frozen? ⟨r,a*2+1,none⟩=false
def sM(w:World)(r a:Nat)(v:B.V):World:=(w.setCell ⟨r,a*2,none⟩ (.int .i64 (v.1:Int))).setCell ⟨r,a*2+1,none⟩ (.int .i64 v.2)
theorem jl{w w0:World}(h:w.grownBy w0 none)(a:Addr)(v:Value):(w.setCell a v).grownBy (w0.setCell a v) none:=by
 refine⟨h.os,h.tape,h.output,by simpa[World.setCell] using h.size,λk i _=>?_⟩;simp[World.setCell,cn,h.block k (by simpa[World.setCell] using i) (by intro e;cases e)]
theorem Mb{mb t i nr a b c:Nat}{y:B.V}(ha:a<nr)(hb:b<256)(H:c<256)(r:oU w i a y): Calls prog 194 #[P0 mb,.int .i64 (t:Int),.slice (some ⟨i,0,none⟩) nr nr,jY 0 a b c] w λe w'=>e=.returned (.int .i64 0)/\(sM w i a (0,B.wide b c)).grownBy w' none:=by
 obtain⟨u,r1,Y,Z⟩:=r;have W:i<w.heap.size:=av w _ u;have G:(a:Int)<(nr:Int):=by omega
 have q1:IntKind.i64.wrap (256*(b:Int))=256*(b:Int):=by rw[bl,bd _ (by omega)]
 have J:IntKind.i64.wrap (256*(b:Int)+(c:Int))=256*(b:Int)+(c:Int):=by rw[bl,bd _ (by omega)]
 go_in;go_wp2_with fail
 all_goals go_ret
 .refine⟨rfl,?_⟩;have e:B.wide b c=256*(b:Int)+c-65536:=by unfold B.wide;rw[aa (by omega)];omega
  rw[e];exact au (ax _ _) _
 refine⟨rfl,?_⟩;have e:B.wide b c=256*(b:Int)+c:=by unfold B.wide;rw[aj (by omega)];omega
 rw[e];exact au (ax _ _) _
theorem Ma{mb t i nr a b c:Nat}{y vb:B.V}(ha:a<nr)(H:b<nr)(hb:b<256)(hc:c<256)(r:oU w i a y)(rb:oU w i b vb): Calls prog 194 #[P0 mb,.int .i64 (t:Int),.slice (some ⟨i,0,none⟩) nr nr,jY 1 a b c] w λe w'=>e=.returned (.int .i64 0)/\(sM w i a vb).grownBy w' none:=by
 obtain⟨u,r1,r2,Y⟩:=r;have W:i<w.heap.size:=av w _ u;have G:(a:Int)<(nr:Int):=by omega
 have q1:IntKind.i64.wrap (256*(b:Int))=256*(b:Int):=by rw[bl,bd _ (by omega)]
 have q2:IntKind.i64.wrap (256*(b:Int)+(c:Int))=256*(b:Int)+(c:Int):=by rw[bl,bd _ (by omega)]
 obtain⟨Z,s1,_,_⟩:=rb;have J:(b:Int)<(nr:Int):=by omega
 go_in;go_wp2_with fail
 all_goals go_ret
 all_goals refine⟨rfl,?_⟩
 all_goals first|exact au (ax _ _) _|exact bq (au (ax _ _) _)
theorem Kt{mb t i nr a b c:Nat}{G:B.V}{x:Int}(ha:a<nr)(hb:b<256)(hc:c<256)(r:oU w i a G)(u:w.cell? ⟨mb,5,none⟩=some (.int .i64 x))(hn:mb≠i): Calls prog 194 #[P0 mb,.int .i64 (t:Int),.slice (some ⟨i,0,none⟩) nr nr,jY 22 a b c] w λe w'=>e=.returned (.int .i64 0)/\(sM w i a (0,x)).grownBy w' none:=by
 obtain⟨y,r1,r2,Y⟩:=r;have W:i<w.heap.size:=av w _ y;have J:(a:Int)<(nr:Int):=by omega
 have q1:IntKind.i64.wrap (256*(b:Int))=256*(b:Int):=by rw[bl,bd _ (by omega)]
 have q2:IntKind.i64.wrap (256*(b:Int)+(c:Int))=256*(b:Int)+(c:Int):=by rw[bl,bd _ (by omega)]
 have Z:mb<w.heap.size:=av w _ u
 go_in;go_wp2_with fail
 all_goals go_ret
 all_goals refine⟨rfl,?_⟩
 all_goals first|exact au (ax _ _) _|exact bq (au (ax _ _) _)
theorem JY{o:Nat}(x y:Int)(i:o=2\/o=3\/o=4\/o=5):Calls prog 212 #[.int .i64 (o:Int),.int .i64 x,.int .i64 y] w λe w'=>e=.returned (.int .i64 (arith o x y))/\w'=w:=by
 rcases i with rfl|rfl|rfl|rfl
 all_goals
  go_in;go_wp2_with fail
 all_goals go_ret
 .have e:wrap64 (x+y)=arith 2 x y:=by show _=B.wrap _;unfold wrap64 B.wrap;omega
  rw[<-e];exact⟨rfl,rfl⟩
 .have e:wrap64 (x-y)=arith 3 x y:=by show _=B.wrap _;unfold wrap64 B.wrap;omega
  rw[<-e];exact⟨rfl,rfl⟩
 .have e:wrap64 (x*y)=arith 4 x y:=by
   show _=B.wrap _;generalize x*y=z;unfold wrap64 B.wrap;omega
  rw[<-e];exact⟨rfl,rfl⟩
 .refine⟨?_,rfl⟩;have e:arith 5 x y=1:=by unfold arith pF;simp[*]
  rw[e];rfl
 refine⟨?_,rfl⟩;have e:arith 5 x y=0:=by unfold arith pF;simp;omega
 rw[e];rfl
theorem Gc(e y1:Nat)(x2 y2:Int)(w:World):(binOp .eql 115 (.agg #[.int .i64 (e:Int),.int .i64 x2]) (.agg #[.int .i64 (y1:Int),.int .i64 y2])).run prog w=.ok (.bool (decide ((e,x2)=(y1,y2)))) w:=by
 have i:((e:Int)=(y1:Int))↔e=y1:=by omega
 simp[go_sem];by_cases k1:e=y1<;>by_cases k2:x2=y2<;>simp[k1,k2,i]
theorem L9{mb t i nr a b c:Nat}{va vb Y:B.V}(ha:a<nr)(a7:b<nr)(a5:c<nr)(hb:b<256)(hc:c<256)(r:oU w i a va)(rb:oU w i b vb)(rc:oU w i c Y): Calls prog 194 #[P0 mb,.int .i64 (t:Int),.slice (some ⟨i,0,none⟩) nr nr,jY 6 a b c] w λe w'=>e=.returned (.int .i64 0)/\(sM w i a (0,if vb=Y then 1 else 0)).grownBy w' none:=by
 obtain⟨r0,r1,r2,r3⟩:=r;have lr:i<w.heap.size:=av w _ r0;have a6:(a:Int)<(nr:Int):=by omega
 have a0:i<w.heap.size+1:=by omega
 have q1:IntKind.i64.wrap (256*(b:Int))=256*(b:Int):=by rw[bl,bd _ (by omega)]
 have q2:IntKind.i64.wrap (256*(b:Int)+(c:Int))=256*(b:Int)+(c:Int):=by rw[bl,bd _ (by omega)]
 obtain⟨J,H⟩:=vb;obtain⟨c1,W⟩:=Y;obtain⟨s0,s1,_,_⟩:=rb;obtain⟨u0,u1,_,_⟩:=rc;simp only[]at s0 s1 u0 u1;have Z:=Gc J c1 H W;have y:(if(J,H)=(c1,W) then(1:Int) else 0)=if decide ((J,H)=(c1,W))=true then 1 else 0:=by simp
 rw[y];generalize decide ((J,H)=(c1,W))=dd at *;have a8:(b:Int)<(nr:Int):=by omega
 have a3:(c:Int)<(nr:Int):=by omega
 go_in;go_wp2_with fail
 go_quiet (fail)
 have HX:∃o:World,o=(((w.alloc (.cells #[.int .i64 ((6:Nat):Int),.int .i64 (a:Int),.int .i64 (b:Int),.int .i64 (c:Int)] 90)).alloc (.cells #[.int .i64 0,.int .i64 0] 115)).drewN nq)/\w.grownBy o none/\o.cell? ⟨w.heap.size+1,0,none⟩=some (.int .i64 0)/\o.cell? ⟨w.heap.size+1,1,none⟩=some (.int .i64 0)/\o.frozen? ⟨w.heap.size+1,1,none⟩=false:=⟨_,rfl,db (au (au (ax _ _) _) _) _,by simp[go_sem],by simp[go_sem],by simp[go_sem]⟩;obtain⟨o,e3,u,x0,x1,x2⟩:=HX;have G:(((w.alloc (.cells #[.int .i64 6,.int .i64 (a:Int),.int .i64 (b:Int),.int .i64 (c:Int)] 90)).alloc (.cells #[.int .i64 0,.int .i64 0] 115)).drewN nq)=o:=e3.symm;rw[G];clear e3 G;obtain⟨y0,y2⟩:=bh u (a:=⟨i,a*2,none⟩) lr;obtain⟨y1,y3⟩:=bh u (a:=⟨i,a*2+1,none⟩) lr;rw[r0]at y0;rw[r1]at y1;rw[r2]at y2;rw[r3]at y3
 have HG:=az u
 cases dd with
 | true=>
  go_wp2_with fail
  go_ret;refine⟨rfl,?_⟩;exact jl (jl (bp HG.out (ab (Nat.le_succ _)) _) _ _) _ _
 | false=>
  go_wp2_with fail
  go_ret;refine⟨rfl,?_⟩;exact jl (jl HG.out _ _) _ _
theorem Ks{o mb t i nr a b c:Nat}{va vb G:B.V}(Y:o=2\/o=3\/o=4\/o=5)(ha:a<nr)(a5:b<nr)(a3:c<nr)(hb:b<256)(hc:c<256)(r:oU w i a va)(rb:oU w i b vb)(rc:oU w i c G): Calls prog 194 #[P0 mb,.int .i64 (t:Int),.slice (some ⟨i,0,none⟩) nr nr,jY o a b c] w λe w'=>((vb.1=0/\G.1=0)/\e=.returned (.int .i64 0)/\(sM w i a (0,arith o vb.2 G.2)).grownBy w' none)\/(¬(vb.1=0/\G.1=0)/\e=.returned (.int .i64 1)/\w.grownBy w' none):=by
 obtain⟨r0,r1,r2,r3⟩:=r;have lr:i<w.heap.size:=av w _ r0;have a4:(a:Int)<(nr:Int):=by omega
 have Z:i<w.heap.size+1:=by omega
 have a1:i<w.heap.size+1+1:=by omega
 have q1:IntKind.i64.wrap (256*(b:Int))=256*(b:Int):=by rw[bl,bd _ (by omega)]
 have q2:IntKind.i64.wrap (256*(b:Int)+(c:Int))=256*(b:Int)+(c:Int):=by rw[bl,bd _ (by omega)]
 obtain⟨W,H⟩:=vb;obtain⟨c1,J⟩:=G;obtain⟨s0,s1,_,_⟩:=rb;obtain⟨u0,u1,_,_⟩:=rc;simp only[]at s0 s1 u0 u1;have a6:(b:Int)<(nr:Int):=by omega
 have a0:(c:Int)<(nr:Int):=by omega
 by_cases hz:W=0/\c1=0
 .obtain⟨rfl,rfl⟩:=hz;have HA:Hid (∀w0:World,Calls prog 212 #[.int .i64 (o:Int),.int .i64 H,.int .i64 J] w0 λe w'=>e=.returned (.int .i64 (arith o H J))/\w'=w0):=λw0=>JY H J Y;generalize hy:arith o H J=y at *;clear hy;rcases Y with rfl|rfl|rfl|rfl
  all_goals
   go_in;go_wp2_with fail
   refine(HA.out _).mono ?_;rintro e w2 ⟨rfl,rfl⟩;go_wp2_with fail
   go_ret;refine ag ⟨by simp,rfl,?_⟩
  all_goals exact au (au (au (ax _ _) _) _) _
 have u:(0<(W:Int))\/(W=0/\0<(c1:Int)):=by omega
 have HZ:=az hz;clear hz;rcases u with u|⟨rfl,u⟩<;>rcases Y with rfl|rfl|rfl|rfl
 all_goals
  go_in;go_wp2_with fail
  go_ret;refine ab ⟨by have:=HZ.out;simpa using this,rfl,?_⟩
 all_goals exact au (au (au (ax _ _) _) _) _
theorem zr{o mb t i nr a b c:Nat}{R:Int->World->Prop}(G:o=9\/o=10\/o=11\/o=12)(Z:b<256)(J:c<256)(H:∀w1,w.grownBy w1 none->Calls prog 214 #[P0 mb,.slice (some ⟨i,0,none⟩) nr nr,jY o a b c] w1 λe w'=>∃v:Int,e=.returned (.int .i64 v)/\R v w'): Calls prog 194 #[P0 mb,.int .i64 (t:Int),.slice (some ⟨i,0,none⟩) nr nr,jY o a b c] w λe w'=>∃v:Int,e=.returned (.int .i64 v)/\R v w':=by
 have Y:IntKind.i64.wrap (256*(b:Int))=256*(b:Int):=by rw[bl,bd _ (by omega)]
 have W:IntKind.i64.wrap (256*(b:Int)+(c:Int))=256*(b:Int)+(c:Int):=by rw[bl,bd _ (by omega)]
 have u:=az (H (w.alloc (.cells #[.int .i64 (o:Int),.int .i64 (a:Int),.int .i64 (b:Int),.int .i64 (c:Int)] 90)) (au (ax _ _) _));rcases G with rfl|rfl|rfl|rfl
 all_goals
  go_in;go_wp2_with fail
  refine u.out.mono ?_;rintro e w2 ⟨v,rfl,hR⟩;have y:=az hR;go_wp2_with fail
  go_ret;exact⟨v,rfl,y.out⟩
theorem GK{o mb t i nr a b c:Nat}{R:Int->World->Prop}(G:o=13\/o=15\/o=17\/o=18\/o=19\/o=21)(Z:b<256)(J:c<256)(H:∀w1,w.grownBy w1 none->Calls prog 215 #[P0 mb,.int .i64 (t:Int),.slice (some ⟨i,0,none⟩) nr nr,jY o a b c] w1 λe w'=>∃v:Int,e=.returned (.int .i64 v)/\R v w'): Calls prog 194 #[P0 mb,.int .i64 (t:Int),.slice (some ⟨i,0,none⟩) nr nr,jY o a b c] w λe w'=>∃v:Int,e=.returned (.int .i64 v)/\R v w':=by
 have Y:IntKind.i64.wrap (256*(b:Int))=256*(b:Int):=by rw[bl,bd _ (by omega)]
 have W:IntKind.i64.wrap (256*(b:Int)+(c:Int))=256*(b:Int)+(c:Int):=by rw[bl,bd _ (by omega)]
 have u:=az (H (w.alloc (.cells #[.int .i64 (o:Int),.int .i64 (a:Int),.int .i64 (b:Int),.int .i64 (c:Int)] 90)) (au (ax _ _) _));rcases G with rfl|rfl|rfl|rfl|rfl|rfl
 all_goals
  go_in;go_wp2_with fail
  refine u.out.mono ?_;rintro e w2 ⟨v,rfl,hR⟩;have y:=az hR;go_wp2_with fail
  go_ret;exact⟨v,rfl,y.out⟩
theorem L8{mb t i nr a b c:Nat}{R:World->Prop}(Y:b<256)(G:c<256)(H:∀w1,w.grownBy w1 none->Calls prog 213 #[P0 mb,.int .i64 (t:Int),.int .i64 ((256*b+c:Nat):Int)] w1 λe w'=>e=.returned (.tuple #[])/\R w'): Calls prog 194 #[P0 mb,.int .i64 (t:Int),.slice (some ⟨i,0,none⟩) nr nr,jY 7 a b c] w λe w'=>e=.returned (.int .i64 0)/\R w':=by
 have W:IntKind.i64.wrap (256*(b:Int))=256*(b:Int):=by rw[bl,bd _ (by omega)]
 have J:IntKind.i64.wrap (256*(b:Int)+(c:Int))=256*(b:Int)+(c:Int):=by rw[bl,bd _ (by omega)]
 have o:((256*b+c:Nat):Int)=256*(b:Int)+(c:Int):=by omega
 rw[o]at H;have y:=az (H (w.alloc (.cells #[.int .i64 ((7:Nat):Int),.int .i64 (a:Int),.int .i64 (b:Int),.int .i64 (c:Int)] 90)) (au (ax _ _) _));go_in;go_wp2_with fail
 refine y.out.mono ?_;rintro e w2 ⟨rfl,hR⟩;have u:=az hR;go_wp2_with fail
 go_ret;exact⟨rfl,u.out⟩
theorem L6{mb t G nr a b c:Nat}{o:B.V}{R:World->Prop}(ha:a<nr)(hb:b<256)(hc:c<256)(r:oU w G a o)(H:∀w1,o=(0,0)->w.grownBy w1 none->Calls prog 213 #[P0 mb,.int .i64 (t:Int),.int .i64 ((256*b+c:Nat):Int)] w1 λe w'=>e=.returned (.tuple #[])/\R w')(J:∀w1,o≠(0,0)->w.grownBy w1 none->R w1): Calls prog 194 #[P0 mb,.int .i64 (t:Int),.slice (some ⟨G,0,none⟩) nr nr,jY 8 a b c] w λe w'=>e=.returned (.int .i64 0)/\R w':=by
 have q1:IntKind.i64.wrap (256*(b:Int))=256*(b:Int):=by rw[bl,bd _ (by omega)]
 have q2:IntKind.i64.wrap (256*(b:Int)+(c:Int))=256*(b:Int)+(c:Int):=by rw[bl,bd _ (by omega)]
 have e0:((256*b+c:Nat):Int)=256*(b:Int)+(c:Int):=by omega
 rw[e0]at H;obtain⟨Y,r1,r2,r3⟩:=r;have lr:G<w.heap.size:=av w _ Y;have a0:(a:Int)<(nr:Int):=by omega
 obtain⟨u,y⟩:=o;simp only[]at Y r1;have i:∀w0,(binOp .eql 115 (.agg #[.int .i64 (u:Int),.int .i64 y]) (.agg #[.int .i64 0,.int .i64 0])).run prog w0=.ok (.bool (decide ((u,y)=(0,0)))) w0:=Gc u 0 y 0;have Z:=au (ax w none) (.cells #[.int .i64 ((8:Nat):Int),.int .i64 (a:Int),.int .i64 (b:Int),.int .i64 (c:Int)] 90);by_cases hz:(u,y)=(0,0)
 .have W:=az (H _ hz Z);rw[fh hz]at i;go_in;go_wp2_with fail
  refine W.out.mono ?_;rintro e w2 ⟨rfl,hR⟩;have HR:=az hR;go_wp2_with fail
  go_ret;exact⟨rfl,HR.out⟩
 have W:=az (J _ hz Z);rw[fi hz]at i;go_in;go_wp2_with fail
 go_ret;exact⟨rfl,W.out⟩
theorem Kv{mb t i nr a b c:Nat}{o:B.V}{R:World->Prop}{f:Bool}(ha:a<nr)(hb:b<256)(hc:c<256)(r:oU w i a o)(H:∀w1,w.grownBy w1 none->Calls prog 193 #[P0 mb,.int .i64 (t:Int),vA o] w1 λe w'=>e=.returned (.bool f)/\R w'): Calls prog 194 #[P0 mb,.int .i64 (t:Int),.slice (some ⟨i,0,none⟩) nr nr,jY 14 a b c] w λe w'=>e=.returned (.int .i64 (if f=true then -1 else 0))/\R w':=by
 have q1:IntKind.i64.wrap (256*(b:Int))=256*(b:Int):=by rw[bl,bd _ (by omega)]
 have q2:IntKind.i64.wrap (256*(b:Int)+(c:Int))=256*(b:Int)+(c:Int):=by rw[bl,bd _ (by omega)]
 obtain⟨u,W,r2,Z⟩:=r;have Y:i<w.heap.size:=av w _ u;have J:(a:Int)<(nr:Int):=by omega
 obtain⟨a1,a2⟩:=o;simp only[]at u W;have y:=az (H (w.alloc (.cells #[.int .i64 ((14:Nat):Int),.int .i64 (a:Int),.int .i64 (b:Int),.int .i64 (c:Int)] 90)) (au (ax _ _) _));go_in;go_wp2_with fail
 refine y.out.mono ?_;rintro e w2 ⟨rfl,hR⟩;have G:=az hR
 cases f
 all_goals
  go_wp2_with fail
  go_ret;exact⟨rfl,G.out⟩
theorem Ku{mb t o nr a b c:Nat}{i:B.V}{R:World->Prop}(ha:a<nr)(hb:b<256)(hc:c<256)(r:oU w o a i)(H:∀w1,w.grownBy w1 none->Calls prog 195 #[P0 mb,.int .i64 ((1:Nat):Int),.int .i64 (t:Int),.int .i64 i.2] w1 λe w'=>e=.returned (.tuple #[])/\R w'): Calls prog 194 #[P0 mb,.int .i64 (t:Int),.slice (some ⟨o,0,none⟩) nr nr,jY 20 a b c] w λe w'=>(i.1=0/\e=.returned (.int .i64 0)/\R w')\/(i.1≠0/\e=.returned (.int .i64 1)/\w.grownBy w' none):=by
 have q1:IntKind.i64.wrap (256*(b:Int))=256*(b:Int):=by rw[bl,bd _ (by omega)]
 have q2:IntKind.i64.wrap (256*(b:Int)+(c:Int))=256*(b:Int)+(c:Int):=by rw[bl,bd _ (by omega)]
 obtain⟨u,Z,r2,r3⟩:=r;have lr:o<w.heap.size:=av w _ u;have Y:(a:Int)<(nr:Int):=by omega
 obtain⟨y,a2⟩:=i;simp only[]at u Z H ⊢;have J:=az (H (w.alloc (.cells #[.int .i64 ((20:Nat):Int),.int .i64 (a:Int),.int .i64 (b:Int),.int .i64 (c:Int)] 90)) (au (ax _ _) _));by_cases hz:y=0
 .subst hz;go_in;go_wp2_with fail
  refine J.out.mono ?_;rintro e w2 ⟨rfl,hR⟩;have W:=az hR;go_wp2_with fail
  go_ret;exact ag ⟨by simp,rfl,W.out⟩
 have h1:(0:Int)<(y:Int):=by omega
 have G:=az hz;go_in;go_wp2_with fail
 go_ret;exact ab ⟨G.out,rfl,au (ax _ _) _⟩
end D
namespace D
open F
def jW(p:dz)(d:Dp)(K:Nat)(s:Pl)(t:Nat)(m:Dm)(g:Dg)(w:World)(why:Int)(s':Pl)(v:Int)(w':World):Prop:=
 ∃ρ' m' g',Tr d m g w m' g' w'/\((v=-2/\why=0/\(∃kd1,s'=(s.tQ kd1).kj t)/\eK p (K+1) s m' ρ') \/
  (eK p (K+1) s' m' ρ'/\((0<v/\why=v)\/(v=0/\why=0/\(s'.T t).run=true)\/(v=-1/\why=0/\(s'.T t).run=false))))
variable {p : dz} {d : Dp} {K : Nat} {s s' : Pl} {m m' : Dm} {g g' : Dg} {w w' : World} {ρ ρ' : Nat → Nat} {t tb fb n nr a b c : Nat} {why : Int}
theorem jW.go(o:Tr d m g w m' g' w')(i:eK p K s' m' ρ')(e:(s'.T t).run=true):jW p d K s t m g w 0 s' 0 w':=
 ⟨ρ',m',g',o,ab ⟨i.mono (by omega),ab (ag ⟨rfl,rfl,e⟩)⟩⟩
theorem jW.stop(o:Tr d m g w m' g' w')(i:eK p (K+1) s' m' ρ')(e:(s'.T t).run=false):jW p d K s t m g w 0 s' (-1) w':=
 ⟨ρ',m',g',o,ab ⟨i,ab (ab ⟨rfl,rfl,e⟩)⟩⟩
theorem jW.fail(h:dQ d m g w)(o:w.grownBy w' none)(i:eK p K s m ρ)(e:0<why):jW p d K s t m g w why s why w':=
 ⟨ρ,m,g,(Tr.refl h).kept o,ab ⟨i.mono (by omega),ag ⟨e,rfl⟩⟩⟩
theorem jW.ahead{w1:World}{v:Int}(i:w.grownBy w1 none)(h:jW p d K s t m g w1 why s' v w'):jW p d K s t m g w why s' v w':=by
 obtain⟨ρ',m',g',o,e⟩:=h;exact⟨ρ',m',g',o.ahead i,e⟩
theorem qP.goes(hQ:qP p d s m g w ρ t tb fb n nr)(h:dQ d m g w)(hS:eK p K s m ρ)(hR:Rn p s t)(a:Nat){v:B.V}(e:dN p s v)(o:(sM w (g.rb t n) a (tr ρ v)).grownBy w' none):jW p d K s t m g w 0 (s.dx t (cr s t) ((bw s t).set a v)) 0 w':=by
 obtain⟨m',g',u,i⟩:=hQ.set h hS hR a e o;exact jW.go u i ((gj s t (cr s t) t _).2.2.1.trans hR.run)
theorem qP.Af(hQ:qP p d s m g w ρ t tb fb n nr)(h:dQ d m g w)(hS:eK p K s m ρ)(hR:Rn p s t)(a:Nat)(x:Int)(e:(sM w (g.rb t n) a (0,x)).grownBy w' none):jW p d K s t m g w 0 (oO s t a x) 0 w':=
 hQ.goes h hS hR a (dN.num x) (by rw[sm];exact e)
theorem eK.B1(hS:eK p K s m ρ)(J:Ok p s){x y:B.V}(hx:dN p s x)(H:dN p s y):tr ρ x=tr ρ y↔x=y:=by
 refine⟨λe=>?_,λe=>by rw[e]⟩;have u:=wH J hS hx;have G:=wH J hS H;by_cases i:x.1=0
 .have o:=G.1.1 (by rw[<-e];exact u.1.2 i);rw[om i,om o]at e;exact e
 have o:y.1≠0:=λW=>i (u.1.1 (by rw[e];exact G.1.2 W));have Y:x.2=y.2:=by rw[<-u.2,<-G.2,e]
 rw[oZ i,oZ o]at e;injection e with e _;exact fV (hS.I _ _ (B.oH.vi hx i) (B.oH.vi H o) e) Y
theorem AQ{s:Pl}{t:Nat}(hi:cr s t<(s.T t).fr.length):s.dx t (cr s t) (bw s t)=s:=by
 have:(s.T t).fr.set (cr s t) (bw s t)=(s.T t).fr:=by
  refine List.ext_getElem? (λj=>?_);by_cases e:cr s t=j
  .subst e;rw[List.getElem?_set_self hi];unfold bw de;rw[ar,bn hi];rfl
  rw[List.getElem?_set_ne e]
 unfold Pl.dx;rw[this];unfold Pl.dv;have o:(λi=>if i=t then s.T t else s.T i)=s.T:=by
  fB i
  by_cases e:i=t
  .rw[aj e,e]
  rw[aa e]
 show({ s with T:=λi=>if i=t then s.T t else s.T i }:Pl)=s;rw[o]
section
variable (hP : PD p d) (h : dQ d m g w) (hS : eK p K s m ρ) (hR : Rn p s t) (hQ : qP p d s m g w ρ t tb fb n nr)
include h hS hR hQ
theorem Mo(i:a<nr)(u:b<256)(o:c<256):Calls prog 194 #[P0 g.mb,.int .i64 t,.slice (some ⟨g.rb t n,0,none⟩) nr nr,jY 0 a b c] w λe w'=>∃v:Int,e=.returned (.int .i64 v)/\jW p d K s t m g w 0 (oO s t a (B.wide b c)) v w':=by
 refine(Mb i u o (hQ.rc i)).mono ?_;rintro e w' ⟨rfl,y⟩;exact⟨0,rfl,hQ.Af h hS hR a _ y⟩
theorem Mn(u:a<nr)(o:b<nr)(i:b<256)(y:c<256):Calls prog 194 #[P0 g.mb,.int .i64 t,.slice (some ⟨g.rb t n,0,none⟩) nr nr,jY 1 a b c] w λe w'=>∃v:Int,e=.returned (.int .i64 v)/\jW p d K s t m g w 0 (s.dx t (cr s t) ((bw s t).set a ((bw s t).R b))) v w':=by
 refine(Ma u o i y (hQ.rc u) (hQ.rc o)).mono ?_;rintro e w' ⟨rfl,G⟩;exact⟨0,rfl,hQ.goes h hS hR a (hR.oq (by rw[hQ.r2];exact o)) G⟩
theorem Fh{o:Nat}(ho:o=2\/o=3\/o=4\/o=5)(Z:a<nr)(Y:b<nr)(J:c<nr)(W:b<256)(H:c<256)(hi:wE s t o a b c why s'):Calls prog 194 #[P0 g.mb,.int .i64 t,.slice (some ⟨g.rb t n,0,none⟩) nr nr,jY o a b c] w λe w'=>∃v:Int,e=.returned (.int .i64 v)/\jW p d K s t m g w why s' v w':=by
 have gb:=wH hR.ok hS (hR.oq (a:=b) (by rw[hQ.r2];exact Y));have gc:=wH hR.ok hS (hR.oq (a:=c) (by rw[hQ.r2];exact J));refine(Ks ho Z Y J W H (hQ.rc Z) (hQ.rc Y) (hQ.rc J)).mono ?_;rintro e w' (⟨⟨e1,e2⟩,rfl,G⟩|⟨hn,rfl,G⟩)
 .have u:=gb.1.1 e1;have i:=gc.1.1 e2;rw[om u,om i]at G;rcases hi with⟨_,rfl,rfl⟩|⟨y,_⟩
  .exact⟨0,rfl,hQ.Af h hS hR a _ G⟩
  exact ch ⟨u,i⟩ y
 rcases hi with⟨y,_⟩|⟨_,rfl,rfl⟩
 .exact ch ⟨gb.1.2 y.1,gc.1.2 y.2⟩ hn
 exact⟨1,rfl,jW.fail h G hS (by omega)⟩
theorem Mm(H:a<nr)(y:b<nr)(u:c<nr)(o:b<256)(i:c<256):Calls prog 194 #[P0 g.mb,.int .i64 t,.slice (some ⟨g.rb t n,0,none⟩) nr nr,jY 6 a b c] w λe w'=>∃v:Int,e=.returned (.int .i64 v)/\jW p d K s t m g w 0 (oO s t a (if(bw s t).R b=(bw s t).R c then 1 else 0)) v w':=by
 have G:=hS.B1 hR.ok (hR.oq (a:=b) (by rw[hQ.r2];exact y)) (hR.oq (a:=c) (by rw[hQ.r2];exact u));refine(L9 H y u o i (hQ.rc H) (hQ.rc y) (hQ.rc u)).mono ?_;rintro e w' ⟨rfl,W⟩;refine⟨0,rfl,hQ.Af h hS hR a _ ?_⟩;have:(if(bw s t).R b=(bw s t).R c then(1:Int) else 0)=if tr ρ ((bw s t).R b)=tr ρ ((bw s t).R c) then 1 else 0:=by
  by_cases e:(bw s t).R b=(bw s t).R c
  .rw[aj e,aj (G.2 e)]
  rw[aa e,aa (λJ=>e (G.1 J))]
 rw[this];exact W
theorem Lf(i:a<nr)(u:b<256)(o:c<256):Calls prog 194 #[P0 g.mb,.int .i64 t,.slice (some ⟨g.rb t n,0,none⟩) nr nr,jY 22 a b c] w λe w'=>∃v:Int,e=.returned (.int .i64 v)/\jW p d K s t m g w 0 (oO s t a s.eY) v w':=by
 refine(Kt i u o (hQ.rc i) (h.mc 5 (by omega) rfl).1 (h.M.ne hQ.F (by decide))).mono ?_;rintro e w' ⟨rfl,y⟩;refine⟨0,rfl,hQ.Af h hS hR a _ ?_⟩;rw[<-hS.ck];exact y
theorem Ml(G:b<256)(y:c<256):Calls prog 194 #[P0 g.mb,.int .i64 t,.slice (some ⟨g.rb t n,0,none⟩) nr nr,jY 7 a b c] w λe w'=>∃v:Int,e=.returned (.int .i64 v)/\jW p d K s t m g w 0 (s.dx t (cr s t) { bw s t with nx:=256*b+c }) v w':=by
 refine(L8 (R:=λw'=>jW p d K s t m g w 0 (s.dx t (cr s t) { bw s t with nx:=256*b+c }) 0 w') G y (λw1 i=>?_)).mono ?_
 .refine(F4 (h.kept i) hQ.dt (hQ.kept h i).T hQ.n20 (hS.small hR.ok).1 _).mono ?_;rintro e w' ⟨rfl,o⟩;have u:=hS.nx hR.lv hR.fw.n1 (256*b+c);rw[hQ.tp,hQ.tf]at u;exact⟨rfl,jW.go (o.ahead i) u ((gj s t (cr s t) t _).2.2.1.trans hR.run)⟩
 rintro e w' ⟨rfl,o⟩;exact⟨0,rfl,o⟩
theorem Mk(o:a<nr)(Z:b<256)(Y:c<256):Calls prog 194 #[P0 g.mb,.int .i64 t,.slice (some ⟨g.rb t n,0,none⟩) nr nr,jY 8 a b c] w λe w'=>∃v:Int,e=.returned (.int .i64 v)/\jW p d K s t m g w 0 (s.dx t (cr s t) { bw s t with nx:=if(bw s t).R a=(0,0) then 256*b+c else(bw s t).nx }) v w':=by
 have u:=hS.B1 hR.ok (hR.oq (a:=a) (by rw[hQ.r2];exact o)) (y:=(0,0)) (dN.num 0);rw[sm]at u;refine(L6 (R:=λw'=>jW p d K s t m g w 0 (s.dx t (cr s t) { bw s t with nx:=if(bw s t).R a=(0,0) then 256*b+c else(bw s t).nx }) 0 w') o Z Y (hQ.rc o) (λw1 G i=>?_) (λw1 G i=>?_)).mono ?_
 .refine(F4 (h.kept i) hQ.dt (hQ.kept h i).T hQ.n20 (hS.small hR.ok).1 _).mono ?_;rintro e w' ⟨rfl,H⟩;have J:=hS.nx hR.lv hR.fw.n1 (256*b+c);rw[hQ.tp,hQ.tf]at J;rw[aj (u.1 G)];exact⟨rfl,jW.go (H.ahead i) J ((gj s t (cr s t) t _).2.2.1.trans hR.run)⟩
 .rw[aa (λW=>G (u.2 W))];show jW p d K s t m g w 0 (s.dx t (cr s t) (bw s t)) 0 w1;rw[AQ hR.hi];exact jW.go ((Tr.refl h).kept i) hS hR.run
 rintro e w' ⟨rfl,H⟩;exact⟨0,rfl,H⟩
include hP
theorem Li(u:a<nr)(W:b<256)(J:c<256)(he:m.ev.length<=100000):Calls prog 194 #[P0 g.mb,.int .i64 t,.slice (some ⟨g.rb t n,0,none⟩) nr nr,jY 14 a b c] w λe w'=>∃v:Int,e=.returned (.int .i64 v)/\jW p d K s t m g w 0 (s.back t ((bw s t).R a)) v w':=by
 have G:=mA hR.ok.lw hR.ht ((bw s t).R a);refine(Kv (R:=λw'=>jW p d K s t m g w 0 (s.back t ((bw s t).R a)) (if decide (cr s t=0)=true then -1 else 0) w') (f:=decide (cr s t=0)) u W J (hQ.rc u) (λw1 y=>?_)).mono ?_
 .refine(Ga hP (h.kept y) hS hR.ok hR.lv hR.wh (hR.oq (a:=a) (by rw[hQ.r2];exact u)) he).mono ?_;rintro e w' ⟨rfl,m',g',i,H⟩;refine⟨rfl,?_⟩;by_cases o:cr s t=0
  .rw[aj (by rw[o];rfl)];exact jW.stop (i.ahead y) (H.mono (by omega)) (G.1 o)
  rw[aa (by simpa using o)];exact jW.go (i.ahead y) H ((G.2 o).1.trans hR.run)
 rintro e w' ⟨rfl,i⟩;exact⟨_,rfl,i⟩
omit hP in
theorem Lg(y:a<nr)(J:b<256)(H:c<256)(he:m.ev.length<=100000):Calls prog 194 #[P0 g.mb,.int .i64 (t:Int),.slice (some ⟨g.rb t n,0,none⟩) nr nr,jY 20 a b c] w λe w'=>∃v:Int,e=.returned (.int .i64 v)/\jW p d K s t m g w (iY s t a).1 (iY s t a).2 v w':=by
 have G:=wH hR.ok hS (hR.oq (a:=a) (by rw[hQ.r2];exact y));refine(Ku (R:=λw'=>((bw s t).R a).1=0->jW p d K s t m g w 0 (s.told 1 t ((bw s t).R a).2) 0 w') y J H (hQ.rc y) (λw1 o=>?_)).mono ?_
 .refine(B5 1 t _ (h.kept o) he).mono ?_;rintro e w' ⟨rfl,g',u⟩;refine⟨rfl,λi=>?_⟩;rw[om i]at u;exact jW.go (u.ahead o) (hS.told 1 t _) hR.run
 unfold iY;rintro e w' (⟨i,rfl,u⟩|⟨i,rfl,o⟩)
 .rw[aj (G.1.1 i)];exact⟨0,rfl,u (G.1.1 i)⟩
 rw[aa (λe=>i (G.1.2 e))];exact⟨1,rfl,jW.fail h o hS (by omega)⟩
end
end D
namespace D
open F
variable {p : dz} {d : Dp} {K : Nat} {s : Pl} {m m' : Dm} {g g' : Dg} {w w' : World} {ρ : Nat → Nat}
theorem JT{t tb fb n nr a b c:Nat}(hP:PD p d)(hG:∀f,f<p.nf->2<=p.rg f/\p.rg f<=8)(h:dQ d m g w)(hS:eK p K s m ρ)(hR:Rn p s t)(hQ:qP p d s m g w ρ t tb fb n nr)(ha:a<nr)(hb:b<nr)(hc:c<nr)(hK:K<900000000)(hn1:s.nt+1<=500000000): Calls prog 227 #[P0 g.mb,.int .i64 (t:Int),.slice (some ⟨g.rb t n,0,none⟩) nr nr,jY 13 a b c] w λe w'=>∃(why:Int) (s':Pl),e=.returned (.int .i64 why)/\jD p s t (13,a,b,c) why s'/\∃m' g',Tr d m g w m' g' w'/\eK p K s' m' ρ:=by
 obtain⟨hn,hq⟩:=hS.small hR.ok;obtain⟨Z,a3,_,_⟩:=hQ.rc hb;obtain⟨bE,bC,_,_⟩:=hQ.rc hc;have aD:=hR.oq (by rw[hQ.r2];exact hb);have b3:=hR.oq (by rw[hQ.r2];exact hc);have a1:∀why,(iy s ((bw s t).R b)).2.2=false->why=4->jD p s t (13,a,b,c) why s:=λwhy hf e=>by
  subst e;exact⟨by show 4=pN _ _;rw[hf];rfl,by unfold kP;rw[aa (λe=>by rw[hf]at e;cases e.1)]⟩
 by_cases h0:((bw s t).R b).1=0
 .rw[om h0]at Z a3;rw[h0]at Z;refine(Cr hb Z a3).mono ?_;rintro e w' ⟨rfl,hg⟩;exact⟨4,s,rfl,a1 4 (by unfold iy;rw[aj (ag h0)]) rfl,m,g,(Tr.refl h).kept hg,hS⟩
 obtain⟨e1,e2,e3,e4,e5⟩:=hS.Gf hR.ok aD h0;rw[e1]at Z a3;obtain⟨cb,k1,k2,k3,k4,k5⟩:=h.cc e2 e3;obtain⟨z,hz⟩:∃z,ρ ((bw s t).R b).1=z+1:=⟨ρ ((bw s t).R b).1-1,by omega⟩;rw[hz]at Z e3 k4 k5;rw[dC]at k4 k5;have a8:LN w g.mb (g.rb t n) nr b c z cb m.nc (g.ro 3 0).2 (g.sb (z+1)) (m.M (z+1)).length 0 ((m.ck (z+1):Int)-1) (0,0) (0,0):=⟨hb,hc,by omega,by have:=hS.B.1;omega,Z,a3,k3,k4,k5,hQ.F.lt,h.M.lt,k2⟩;rw[hz]at e4 e5;by_cases hk:s.ck ((bw s t).R b).1=0
 .refine(Cq a8 (by rw[e5,hk];decide)).mono ?_;rintro e w' ⟨rfl,hg⟩;exact⟨4,s,rfl,a1 4 (by unfold iy;rw[aj (ab hk)]) rfl,m,g,(Tr.refl h).kept hg,hS⟩
 have aF:iy s ((bw s t).R b)=(s.ck ((bw s t).R b).1-1,(s.M ((bw s t).R b).1).getD 0 (0,0),true):=by unfold iy;rw[aa (λe=>e.elim h0 hk)]
 obtain⟨aM,aK⟩:=vK hR.ok aD (by rw[aF]);rw[aF]at aM aK;have aI:=(hS.C _ (B.oH.vi aD h0)).f hk;have cK:1<=(m.M (z+1)).length:=by
  rw[e4,dS];have:(s.M ((bw s t).R b).1).length≠0:=λe=>aI (cf.1 e);omega
 have b8:((m.ck (z+1):Int)-1)=((s.ck ((bw s t).R b).1-1:Nat):Int):=by rw[e5];omega
 have aT:=h.S (c:=z+1) (by omega) e3;have aV:kT (m.M (z+1)) 0=tr ρ ((s.M ((bw s t).R b).1).getD 0 (0,0)):=by
  unfold kT;rw[e4]
  cases hM:s.M ((bw s t).R b).1 with
  | nil=>exact ch hM aI
  | cons y l=>rfl
 obtain⟨y0,y1,_,_⟩:=Iz aT (a:=0) (by omega);rw[aV,Nat.zero_mul]at y0 y1;rw[b8]at a8;generalize cR:s.ck ((bw s t).R b).1-1=ff at *;generalize cM:(s.M ((bw s t).R b).1).getD 0 (0,0)=cy at *;generalize (m.M (z+1)).length=ml at *;have b1:=Mr (op:=13) (a:=a) a8;obtain⟨_,_,cJ,cU,_,_,_,_,_,lr,lb,lc⟩:=a8;have ls:=aT.lt;have cY:(b:Int)<(nr:Int):=by omega
 have cP:g.rb t n<w.heap.size+1:=by omega
 have q1:IntKind.i64.wrap ((z:Int)+1-1)=(z:Int):=fp (by omega);have q2:IntKind.i64.wrap (z:Int)=(z:Int):=by rw[bl,bd _ (by omega)]
 have q3:(z:Int)<(m.nc:Int):=by omega
 have q4:(0:Int)<=(z:Int):=by omega
 have q5:(((z:Int)+1) == 0)=false:=by rw[dK];omega
 have HF:=az b1;have HH:=az h;have HS:=az hS;have aB:=az hR;have HQ:=az hQ;have HY:=az (ay y0 y1);have HC:=az (ay bE bC);have a0:=az (ay aF (ay aM aK));have bQ:=az b3;have HP:=az hP;have bO:=az hG;clear h hS hR hQ y0 y1 bE bC aF aM aK b3 aD hP hG b1 a1 e1 e2 e4 e5 k1 k3 k4 k5 Z a3 aV aT aI b8 hz;go_in;go_wp2_with fail
 generalize (w.alloc (.cells #[.int .i64 ((13:Nat):Int),.int .i64 (a:Int),.int .i64 (b:Int),.int .i64 (c:Int)] 90)).alloc (.cells #[.int .i64 ((z:Int)+1),.int .i64 0] 115)=w2 at *;obtain⟨aA,i0,i1,i3,x0,aC,d0,d1,a9⟩:=HF.out;clear aA;go_quiet (fail)
 go_wp2_with fail
 clear i0 i1 i3 x0 aC d0 d1;obtain⟨aA,i0,i1,i3,x0,aC,d0,d1,a9⟩:=HF.out.drewN nq;have KG:=az aA;generalize w2.drewN nq=w3 at *;have c7:cb<w3.heap.size:=av w3 _ d0;have c9:g.mb<w3.heap.size:=av w3 _ aC;clear aA HF;go_cut [10] (λq wx=>∃X:Nat,q=.pointer (some ⟨X,0,none⟩)/\Hid (L4 w3 wx X (g.sb (z+1)) ml (ff:Int)))
 case first=>
  go_region
  all_goals
   go_wp2_with fail
   go_meet
   case rel=>exact⟨_,rfl,Mq _ _ _ _⟩
 case rest=>
  obtain⟨X,rfl,bD⟩:=hcut;obtain⟨g3,v0,v1,hX⟩:=bD.out;have o0:wc.cell? ⟨w.heap.size,0,none⟩=some (.int .i64 ((13:Nat):Int)):=(bh g3 (a:=⟨w.heap.size,0,none⟩) (by show w.heap.size<_;omega)).1.trans i0;have o1:=(bh g3 (a:=⟨w.heap.size,1,none⟩) (by show w.heap.size<_;omega)).1.trans i1;have o3:=(bh g3 (a:=⟨w.heap.size,3,none⟩) (by show w.heap.size<_;omega)).1.trans i3;have H:=az (an KG.out g3);have lw:w.heap.size<wc.heap.size:=by have:=g3.size;omega
  have lX:X<wc.heap.size:=av wc _ v0;clear bD g3 i0 i1 i3 x0 aC d0 d1 hX c7 c9 KG;have bP:=az (HH.out.kept H.out);have a5:=az (HQ.out.kept HH.out H.out);obtain⟨k,rfl⟩:∃k,t=k+1:=⟨t-1,by have:=aB.out.ht.1;omega⟩;have j6:=a5.out.T.c6;have jt:=a5.out.T.t0;rw[dC]at jt;have cV:(k:Int)<(m.nt:Int):=by have:=a5.out.dt.2;omega
  have q6:=fp (n:=k) (by omega);have q7:(0:Int)<=(k:Int):=by omega
  have q8:IntKind.i64.wrap (k:Int)=(k:Int):=by rw[bl,bd _ (by omega)]
  by_cases aR:n+1=20
  .go_wp2_with fail
   go_ret;refine⟨5,s,rfl,?_,m,g,(Tr.refl HH.out).kept H.out,HS.out⟩;have hl:(s.T (k+1)).fr.length=20:=by rw[<-(HS.out.T _ aB.out.lv).l,HQ.out.T.l];exact aR
   exact⟨by show 5=pN _ _;rw[a0.out.1,hl];rfl,by unfold kP;rw[aa (λe=>e.2 hl)]⟩
  have q9:¬((20:Int)<=(n:Int)+1):=by have:=HQ.out.n20;omega
  have aH:=(bh H.out (a:=⟨g.rb (k+1) n,c*2,none⟩) lr).1.trans HC.out.1;have b9:=(bh H.out (a:=⟨g.rb (k+1) n,c*2+1,none⟩) lr).1.trans HC.out.2;have aQ:=(bh H.out (a:=⟨g.sb (z+1),0,none⟩) ls).1.trans HY.out.1;have b6:=(bh H.out (a:=⟨g.sb (z+1),1,none⟩) ls).1.trans HY.out.2;have cQ:(c:Int)<(nr:Int):=by omega
  have cN:0<ml:=by omega
  have bF:g.rb (k+1) n<wc.heap.size:=av wc _ aH;have b0:g.sb (z+1)<wc.heap.size:=av wc _ aQ;have cT:g.mb<wc.heap.size:=av wc _ j6;have aU:=az (HP.out.rg ff a0.out.2.1);have aN:Hid (∀w1,wc.grownBy w1 none->Calls prog 74 #[P0 g.mb,.int .i64 (ff:Int),vA (tr ρ ((bw s (k+1)).R c)),vA (tr ρ cy),.int .i64 (a:Int)] w1 λe w'=>∃b',e=.returned (.agg #[.int .i64 (ff:Int),.slice (some ⟨b',0,none⟩) (d.rg ff) (d.rg ff),.int .i64 0,.int .i64 (a:Int)])/\w1.heap.size<=b'/\Full w' b' 115 (d.rg ff*2) (d.rg ff*2) (eC (gh (tr ρ ((bw s (k+1)).R c)) (tr ρ cy)))/\w1.grownBy w' none):=λw1 c2=>by
   have bA:=bP.out.kept c2;have c4:=bA.P.2.2;have cH:ff<d.nf:=by rw[HP.out.nf];exact a0.out.2.1
   have:=bO.out ff a0.out.2.1;refine xL (bA.mc 0 (by omega) rfl).1 (r0:=d.rg ff) ?_ cH (by rw[aU.out];exact this.1) (by rw[aU.out];exact this.2);rw[c4.cell (ff*2) (by omega)];unfold JC;rw[aj (by omega),show ff*2 / 2=ff by omega]
  generalize b4:tr ρ ((bw s (k+1)).R c)=va at *;generalize aY:tr ρ cy=vc at *;have aZ:=az (ay b4 aY);clear b4 aY;go_wp2_with fail
  obtain⟨W,bV⟩:∃x:World,x=wc:=⟨_,rfl⟩;subst bV;go_cut [11] (λq wx=>∃Y b':Nat,q=.pointer (some ⟨Y,0,none⟩)/\Hid (LM W wx Y b' ff a (d.rg ff) va vc))
  case first=>
   have a6:Hid (∀w',W.grownBy w' none->w'.cell? ⟨X,0,none⟩=some (.slice (some ⟨g.sb (z+1),0,none⟩) ml ml)/\w'.cell? ⟨X,1,none⟩=some (.int .i64 (ff:Int))/\w'.cell? ⟨w.heap.size,1,none⟩=some (.int .i64 (a:Int))/\w'.cell? ⟨w.heap.size,3,none⟩=some (.int .i64 (c:Int))/\w'.cell? ⟨g.rb (k+1) n,c*2,none⟩=some (.int .i64 (va.1:Int))/\w'.cell? ⟨g.rb (k+1) n,c*2+1,none⟩=some (.int .i64 va.2)/\w'.cell? ⟨g.sb (z+1),0,none⟩=some (.int .i64 (vc.1:Int))/\w'.cell? ⟨g.sb (z+1),1,none⟩=some (.int .i64 vc.2)):=λw' hg=>⟨(bh hg (a:=⟨X,0,none⟩) lX).1.trans v0,(bh hg (a:=⟨X,1,none⟩) lX).1.trans v1,(bh hg (a:=⟨w.heap.size,1,none⟩) lw).1.trans o1,(bh hg (a:=⟨w.heap.size,3,none⟩) lw).1.trans o3,(bh hg (a:=⟨g.rb (k+1) n,c*2,none⟩) bF).1.trans aH,(bh hg (a:=⟨g.rb (k+1) n,c*2+1,none⟩) bF).1.trans b9,(bh hg (a:=⟨g.sb (z+1),0,none⟩) b0).1.trans aQ,(bh hg (a:=⟨g.sb (z+1),1,none⟩) b0).1.trans b6⟩;go_region_held3 (λw'=>w'.cell? ⟨X,0,none⟩=some (.slice (some ⟨g.sb (z+1),0,none⟩) ml ml)/\w'.cell? ⟨X,1,none⟩=some (.int .i64 (ff:Int))/\w'.cell? ⟨w.heap.size,1,none⟩=some (.int .i64 (a:Int))/\w'.cell? ⟨w.heap.size,3,none⟩=some (.int .i64 (c:Int))/\w'.cell? ⟨g.rb (k+1) n,c*2,none⟩=some (.int .i64 (va.1:Int))/\w'.cell? ⟨g.rb (k+1) n,c*2+1,none⟩=some (.int .i64 va.2)/\w'.cell? ⟨g.sb (z+1),0,none⟩=some (.int .i64 (vc.1:Int))/\w'.cell? ⟨g.sb (z+1),1,none⟩=some (.int .i64 vc.2)) (first|exact a6.out _ (bq (ax _ _))|exact a6.out _ (au (bq (ax _ _)) _)|exact a6.out _ a2.out|exact a6.out _ (au a2.out _)|exact a6.out _ (bp (bp (bp (bp a2.out (ab (bj _)) _) (ab (bj _)) _) (ab (bj _)) _) (ab (bj _)) _)) (first|(go_at_call 74;refine(aN.out W.drew (bq (ax _ _))).mono ?_;rintro e w5 ⟨b',rfl,a7,a4,J⟩;have a2:Hid (W.grownBy w5 none):=⟨J.os,J.tape,J.output,J.size,J.block⟩;have aO:=az a4;have aS:Hid (W.heap.size<=b'):=a7;clear J a4 a7)|(go_at_call 74;refine(aN.out (W.drew.alloc (.cells #[.int .i64 0,.slice none 0 0,.int .i64 0,.int .i64 0] 163)) (au (bq (ax _ _)) _)).mono ?_;rintro e w5 ⟨b',rfl,a7,a4,J⟩;have a2:=az (an (au (bq (ax _ _)) _) J);have aO:=az a4;have aS:=az (by have h9:=a7;simp at h9;exact h9);have hy:w5.heap[W.heap.size]? = some (.cells #[.int .i64 0,.slice none 0 0,.int .i64 0,.int .i64 0] 163 (0,0)):=cm J (bf W.drew _) (by intro e;cases e);have ya:w5.cell? ⟨W.heap.size,0,none⟩=some (.int .i64 0):=(by simp[World.cell?,hy]);have yb:w5.cell? ⟨W.heap.size,1,none⟩=some (.slice none 0 0):=(by simp[World.cell?,hy]);have yc:w5.cell? ⟨W.heap.size,2,none⟩=some (.int .i64 0):=(by simp[World.cell?,hy]);have yd:w5.cell? ⟨W.heap.size,3,none⟩=some (.int .i64 0):=(by simp[World.cell?,hy]);have za:w5.frozen? ⟨W.heap.size,0,none⟩=false:=(by simp[World.frozen?,hy]);have zb:w5.frozen? ⟨W.heap.size,1,none⟩=false:=(by simp[World.frozen?,hy]);have zc:w5.frozen? ⟨W.heap.size,2,none⟩=false:=(by simp[World.frozen?,hy]);have zd:w5.frozen? ⟨W.heap.size,3,none⟩=false:=(by simp[World.frozen?,hy]);have bN:=az hy;clear hy J a4 a7))
   all_goals
    go_wp2_with fail
    go_meet
    case rel=>
     first
      | exact⟨_,_,rfl,Lr a2.out aO.out aS.out⟩
      | exact⟨_,_,rfl,Lp a2.out aO.out aS.out bN.out⟩
  case rest=>
   obtain⟨Y,b',rfl,aW⟩:=hcut;obtain⟨g4,hy,bU,cO,b5⟩:=aW.out;have aJ:=az (an H.out g4);have i:=az (HQ.out.kept HH.out aJ.out);have bG:=az (HH.out.kept aJ.out);have t6:=i.out.T.c6;have tt:=i.out.T.t0;rw[dC]at tt;have zt:wc.frozen? ⟨tb,k*8,none⟩=false:=by
    obtain⟨bH,e1,_,tc⟩:=bG.out.tc i.out.dt;have:bH=tb:=by
     have:=i.out.T.b;rw[e1]at this;injection this with this _;injection this with this;injection this with this _
    subst this;have:=(tc.c 0 (by omega)).2;rw[Nat.add_zero,dC]at this;exact this
   have ya:wc.cell? ⟨Y,0,none⟩=some (.int .i64 (ff:Int)):=by simp[World.cell?,hy]
   have yb:wc.cell? ⟨Y,1,none⟩=some (.slice (some ⟨b',0,none⟩) (d.rg ff) (d.rg ff)):=by simp[World.cell?,hy]
   have yc:wc.cell? ⟨Y,2,none⟩=some (.int .i64 0):=by simp[World.cell?,hy]
   have yd:wc.cell? ⟨Y,3,none⟩=some (.int .i64 (a:Int)):=by simp[World.cell?,hy]
   have bJ:=az b5;have c3:w.heap.size<=b':=by omega
   have aE:=i.out.T.l;have aL:=i.out.T.a;have cA:Hid (wc.ownsRow 0 163 4 (.slice (some ⟨fb,0,none⟩) (n+1) (g.ro 5 (k+1)).2) (n+1) (rowP ((n+1)*4) (fE d m g (k+1)))):=by
    have:=bG.out.Fw i.out.dt;unfold iR at this;rw[aL,show qz m 5 (k+1)=n+1 from aE,aE]at this;exact this
   have b2:Hid (∀j,(Value.slice (some ⟨fb,0,none⟩) (n+1) (g.ro 5 (k+1)).2).ownBlock=some j->j=fb):=λj G=>by simpa[Value.ownBlock] using G.symm
   have c8:fb<wc.heap.size:=i.out.T.lf;have bX:tb<wc.heap.size:=i.out.T.lt;have cF:g.mb<wc.heap.size:=av wc _ t6;have lY:Y<wc.heap.size:=av wc _ ya;have cD:g.mb≠fb:=i.out.T.n1;have bM:tb≠fb:=i.out.T.n2;have bS:Y≠fb:=λe=>by
    have h1:=HQ.out.T.lf;omega
   have b7:=az aE;have bI:=az aL;obtain⟨cG,bT,bR,bK,bZ⟩:=info_parts Tryz.Fe;have cC:Hid (∀w':World,w'.heap[g.mb]? = wc.heap[g.mb]?->w'.heap[tb]? = wc.heap[tb]?->w'.heap[Y]? = wc.heap[Y]?->w'.cell? ⟨g.mb,6,none⟩=some (.slice (some ⟨tb,0,none⟩) m.nt (g.ro 1 0).2)/\w'.cell? ⟨tb,k*8,none⟩=some (.slice (some ⟨fb,0,none⟩) (n+1) (g.ro 5 (k+1)).2)/\w'.frozen? ⟨tb,k*8,none⟩=false/\w'.cell? ⟨Y,0,none⟩=some (.int .i64 (ff:Int))/\w'.cell? ⟨Y,1,none⟩=some (.slice (some ⟨b',0,none⟩) (d.rg ff) (d.rg ff))/\w'.cell? ⟨Y,2,none⟩=some (.int .i64 0)/\w'.cell? ⟨Y,3,none⟩=some (.int .i64 (a:Int))):=λw' e1 e2 e3=>⟨(aw (a:=⟨g.mb,6,none⟩) e1).trans t6,(aw (a:=⟨tb,k*8,none⟩) e2).trans tt,(dg (a:=⟨tb,k*8,none⟩) e2).trans zt,(aw (a:=⟨Y,0,none⟩) e3).trans ya,(aw (a:=⟨Y,1,none⟩) e3).trans yb,(aw (a:=⟨Y,2,none⟩) e3).trans yc,(aw (a:=⟨Y,3,none⟩) e3).trans yd⟩;have bB:Hid (∀(o:Obj) (j:Nat),j<wc.heap.size->(wc.drew.alloc o).heap[j]? = wc.heap[j]?):=λo j G=>ak wc.drew o j G
   clear aW g4 hy bU b5 aE aL jt j6 aH b9 aQ b6 v0 v1 o0 o1 o3 lX lw aN;go_wp2_with fail
   go_cut [] (λwx=>Hid (∃g1,Tr d m g w (m.push (k+1) ⟨ff,0,gh va vc,(13,a,b,c)⟩) g1 wx))
   case first=>
    go_region_law (refine eS _ rfl (.tmp 86) (.tmp 88) 165 rfl 163 cG _ 4 48 Tryz.underlying165 bT bR bK bZ rfl (by decide) (some ⟨fb,0,none⟩) (n+1) (g.ro 5 (k+1)).2 (rowP ((n+1)*4) (fE d m g (k+1))) (by first|rfl|simp[Act.eval,Act.put]) (dD cA.out (λj G=>bB.out _ _ (by rw[b2.out j G];exact c8))) ⟨wc.heap.size,0,none⟩ 1 1 [.int .i64 (ff:Int),.slice (some ⟨b',0,none⟩) (d.rg ff) (d.rg ff),.int .i64 0,.int .i64 (a:Int)] (by first|rfl|simp[Act.eval,Act.put]) rfl (by intro j u G;match j,G with|0,G=>(simp at G;subst G;simp[Addr.add,go_sem])|1,G=>(simp at G;subst G;simp[Addr.add,go_sem])|2,G=>(simp at G;subst G;simp[Addr.add,go_sem])|3,G=>(simp at G;subst G;simp[Addr.add,go_sem])) (by simp[Value.oneCell']) (by unfold maxLen;omega) (by omega) (by decide) ?_;intro v' w6 ho aG aX;obtain⟨kb,cL,rfl⟩:=dM ho (by omega);have c5:=az ho;have cB:=az aG;have bL:=az aX;have KO:Hid (∀j,j<wc.heap.size->j≠fb->w6.heap[j]? = wc.heap[j]?):=(λj G hn=>(aG.block j (by first|(simp;omega)|omega) (λh=>hn (b2.out j h.symm))).trans (bB.out _ _ G));obtain⟨s6,sT,sz,sa,sb,sc,sd⟩:=cC.out w6 (KO.out _ cF cD) (KO.out _ bX bM) (KO.out _ lY bS);clear ho aG aX)
    all_goals
     go_wp2_with fail
     go_meet
     case rel=>
      have ho:=c5.out;have hg:=cB.out;have hm:=bL.out;rw[<-b7.out]at ho ⊢;rw[<-b7.out,<-bI.out]at hg hm;obtain⟨g1,h1⟩:=GY (t:=k+1) (tb:=tb) (f:=⟨ff,0,gh va vc,(13,a,b,c)⟩) HH.out HQ.out.dt HQ.out.T.b aJ.out bJ.out c3 ho hg hm rfl ⟨rfl,rfl,rfl⟩;rw[dC]at h1;exact⟨g1,h1⟩
   case rest=>
    have aP:Hid (∃g1,Tr d m g w (m.push (k+1) ⟨ff,0,gh va vc,(13,a,b,c)⟩) g1 wc):=hcut;clear hcut;go_wp2_with fail
    go_ret;obtain⟨g1,h1⟩:=aP.out;have hl:(s.T (k+1)).fr.length=n+1:=by rw[<-(HS.out.T _ aB.out.lv).l,HQ.out.T.l]
    refine⟨0,kP s (k+1) (13,a,b,c),rfl,⟨?_,rfl⟩,_,g1,h1,?_⟩
    .show 0=pN _ _;rw[a0.out.1,hl];unfold pN;rw[aa (by intro e;cases e),aa aR]
    unfold kP;rw[a0.out.1,aj ⟨rfl,by rw[hl];exact aR⟩];refine HS.out.push aB.out.lv ⟨rfl,rfl,λ_=>rfl,λj G=>?_⟩ (λj _=>pn bQ.out a0.out.2.2 j);show gh va vc j=tr ρ (gh ((bw s (k+1)).R c) cy j);rw[<-aZ.out.1,<-aZ.out.2];unfold gh;split
    .rfl
    split<;>rfl
theorem Md{o mb t i nr a b c:Nat}{R:Int->World->Prop}(G:o=13\/o=15)(H:∀w1,w.grownBy w1 none->Calls prog 227 #[P0 mb,.int .i64 (t:Int),.slice (some ⟨i,0,none⟩) nr nr,jY o a b c] w1 λe w'=>∃v:Int,e=.returned (.int .i64 v)/\R v w'): Calls prog 215 #[P0 mb,.int .i64 (t:Int),.slice (some ⟨i,0,none⟩) nr nr,jY o a b c] w λe w'=>∃v:Int,e=.returned (.int .i64 v)/\R v w':=by
 have u:=az (H (w.alloc (.cells #[.int .i64 (o:Int),.int .i64 (a:Int),.int .i64 (b:Int),.int .i64 (c:Int)] 90)) (au (ax _ _) _));rcases G with rfl|rfl
 all_goals
  go_in;go_wp2_with fail
  refine u.out.mono ?_;rintro e w2 ⟨v,rfl,hR⟩;have y:=az hR;go_wp2_with fail
  go_ret;exact⟨v,rfl,y.out⟩
end D
namespace D
open F
theorem fM.tail{w:World}{e:TypeId}{ad:Option Addr}{n cap:Nat}{x:Value}{ys:List Value}(h:fM w e (.slice ad n cap) (x :: ys)): ∃b off,ad=some ⟨b,off,none⟩/\n=ys.length+1/\ys.length+1<=cap/\b<w.heap.size/\w.cell? ⟨b,off,none⟩=some x/\fM w e (.slice (some ⟨b,if cap=1 then off else off+1,none⟩) ys.length (cap-1)) ys:=by
 rcases h with⟨_,h⟩|⟨b,off,G,N,P,h,H,h2,h3,i,hP⟩
 .cases h
 injection h with e1 W Y;subst e1 W Y;have hl:(x :: ys).length=ys.length+1:=rfl;rw[hl]at H i;refine⟨b,off,rfl,rfl,H,i.lt,?_,?_⟩
 .rw[i.cell off (by omega)];have:=hP 0 x rfl;rw[Nat.add_zero]at this;rw[this]
 by_cases e:cap=1
 .have hy:ys=[]:=cf.1 (by omega);subst hy;rw[aj e];refine ab ⟨b,off,cap-1,N,P,rfl,dc _,by omega,by omega,?_,λj u y=>by simp at y⟩;obtain⟨o,f1,f2,J⟩:=i;exact⟨o,f1,f2,λj Z=>J j (by simp at Z;omega)⟩
 rw[aa e];refine ab ⟨b,off+1,cap-1,N,P,rfl,by omega,by omega,by omega,?_,λj u y=>?_⟩
 .rw[show off+1+ys.length=off+(ys.length+1) by omega];exact i
 have:=hP (j+1) u (by simpa using y);rw[show off+1+j=off+(j+1) by omega];exact this
variable {p : dz} {d : Dp} {K : Nat} {s s' : Pl} {m m' : Dm} {g g' : Dg} {w w' : World} {ρ ρ' : Nat → Nat} {t tb fb n nr a b c : Nat} {why : Int}
theorem Hd{u kind:Nat}{x:Int}{v:B.V}(hP:PD p d)(h:dQ d m g w)(hS:eK p K s m ρ)(o:Ok p s)(i:u∈s.lv)(G:dN p s v)(he:m.ev.length<=100000): Calls prog 196 #[P0 g.mb,.int .i64 (u:Int),.int .i64 (kind:Int),.int .i64 x,vA (tr ρ v)] w λe w'=>e=.returned (.tuple #[])/\∃m' g',Tr d m g w m' g' w'/\eK p K (s.leave u v kind x) m' ρ:=by
 have y:=o.lt u i;refine(JL (t:=u) (kind:=kind) (x:=x) (v:=v) hP h ((eg (iO s u v kind x)).2 y) (o.gone i G kind x (λ_ _ h=>h)) (hS.gone (kind:=kind) (x:=x) o i G) (Ae s u kind x) (hS.small o).2 he).mono ?_;rintro e w' ⟨rfl,m',g',J,H⟩;refine⟨rfl,m',g',J,?_⟩;rw[yS o.lw y]at H;exact H
section
variable (hP : PD p d) (h : dQ d m g w) (hS : eK p K s m ρ) (hR : Rn p s t) (hQ : qP p d s m g w ρ t tb fb n nr) (hK : K < 900000000)
include h hS hR hQ
omit hS hR in
include hP hK
theorem Ju(hG:∀f,f<p.nf->2<=p.rg f/\p.rg f<=8)(hn1:s.nt+1<=500000000)(ha:a<nr)(hb:b<nr)(Y:c<nr)(hi:jD p s t (13,a,b,c) why s'):Calls prog 215 #[P0 g.mb,.int .i64 (t:Int),.slice (some ⟨g.rb t n,0,none⟩) nr nr,jY 13 a b c] w λe w'=>∃v:Int,e=.returned (.int .i64 v)/\jW p d K s t m g w why s' v w':=by
 refine Md (by omega) (λw1 o=>(JT hP hG (h.kept o) hS hR (hQ.kept h o) ha hb Y hK hn1).mono ?_);rintro e w' ⟨i,s1,rfl,u,m',g',y,H⟩;have hw:=nP (p:=p) (s:=s) (s':=s') (t:=t) (k:=(13,a,b,c)) (why:=why) (by show 13<23;omega) hi;obtain⟨e1,W⟩:=hi;obtain⟨J,G⟩:=u;have ew:=J.trans e1.symm;have es:=G.trans W.symm;subst ew es;refine⟨i,rfl,?_⟩;by_cases Z:i=0
 .subst Z;refine jW.go (y.ahead o) H ?_;rw[G];unfold kP;split
  .unfold Pl.push;rw[df];exact hR.run
  exact hR.run
 exact⟨ρ,m',g',y.ahead o,ab ⟨H.mono (by omega),ag ⟨by omega,rfl⟩⟩⟩
omit hK in
omit hP in
omit hP in
end
end D
end Go.Proofs.YtnjiinbhbjpfkaaGreatDoor
