import Derived.Test.YtnjiinbhbjpfkaaGreatDoorKg
set_option maxRecDepth 100000
set_option maxHeartbeats 0
set_option linter.all false
namespace Go.Proofs.YtnjiinbhbjpfkaaGreatDoor
open Go.RowKit Go.Proofs.Tryz
namespace D
open F
variable {p : dz} {d : Dp} {K : Nat} {s : Pl} {m m' : Dm} {g g' : Dg} {w w' : World} {ρ : Nat → Nat}
theorem dQ.I6{p:Dp}(h:dQ p m g w)(u:dy (λk=>k=g.mb) w w')(e:m'.nt=m.nt/\m'.T=m.T/\m'.q=m.q/\m'.jo=m.jo/\m'.nc=m.nc/\m'.M=m.M/\m'.ck=m.ck/\m'.ev=m.ev)(G:Full w' g.mb 112 24 24 (mE p m' g)):Tr p m g w m' g w':=by
 obtain⟨a1,a2,a3,a4,a5,Z,a7,a8⟩:=m;obtain⟨b1,Y,W,b4,J,b6,b7,b8⟩:=m';simp only at e;obtain⟨rfl,rfl,rfl,rfl,rfl,rfl,rfl,rfl⟩:=e;refine h.one 0 0 0 rfl (λx y z=>rfl) u (λx y z i hn=>?_) G (λk o=>ag o);exact ok_eq (e0:=λe=>ch e (λe=>hn ⟨e,jC i (ag (by omega))⟩)) (hx:=kG i)
def Dc.FG(c:Dc)(n N:Nat):Dc:=if c.bg=true then c else { c with bg:=true,mW:=wrap64 ((N:Int)+(n:Int)),sure:=N }
def Dc.F3(c:Dc)(wk:Nat):Int:=if c.mW<(wk:Int) then c.mW else(wk:Int)
def Dc.Ef(c:Dc)(wk:Nat):Dc:={ c with mW:=wrap64 (c.mW-c.F3 wk),fI:=wrap64 (c.fI+c.F3 wk) }
def Dc.fin(c:Dc):Dc:=if c.mW=0 then { c with bg:=false,wi:=wrap64 (c.wi+1),lO:=c.sure } else c
def Dc.rf(c:Dc)(n wk N:Nat):Dc:=if c.fu=true then c else((c.FG n N).Ef wk).fin
theorem eV{b:Nat}{S:Nat->Prop}(hS:S b){w0 w:World}(h:dy S w0 w)(o:Nat)(v:Value):dy S w0 (w.setCell ⟨b,o,none⟩ v):=bm h (ag hS) _
def mZ(d:Dp)(m:Dm)(g:Dg)(w w':World):Prop:=∃N:Nat,(m.G.fu=false->m.G.bg=false->kg d m N)/\Tr d m g w (m.gT (m.G.rf d.n d.wk N)) g w'
theorem mZ.mk'{G:Dc}{w2:World}{N:Nat}(h:dQ d m g w)(e:w.grownBy w2 none)(i:m.G.fu=false->m.G.bg=false->kg d m N)(hG:m.G.rf d.n d.wk N=G)(u:dy (λk=>k=g.mb) w2 w')(o:Full w' g.mb 112 24 24 (mE d (m.gT G) g)):mZ d m g w w':=by
 refine⟨N,i,?_⟩;rw[hG];exact(dQ.I6 (m':=m.gT G) (h.kept e) u ⟨rfl,rfl,rfl,rfl,rfl,rfl,rfl,rfl⟩ o).ahead e
theorem JQ(h:dQ d m g w)(y:BK d m)(i:m.G.fu=true):Calls prog 146 #[P0 g.mb] w λe w'=>e=.returned (.tuple #[])/\mZ d m g w w':=by
 obtain⟨o,a5⟩:=h.mc 23 (by omega) (v:=.bool m.G.fu) rfl;have le:=h.M.lt;have HR:=az h;have W:=az (nG h y);have q0:=bd 0 (by omega);rw[i]at o;have u:=az i;go_in;go_wp2_with fail
 refine da (results_none rfl _ _ _) rfl ?_;refine⟨rfl,0,λe=>(by rw[u.out]at e;cases e),?_⟩;have e:m.gT (m.G.rf d.n d.wk 0)=m:=by
  unfold Dc.rf;rw[aj u.out];rfl
 rw[e];exact Tr.refl HR
theorem JO(h:dQ d m g w)(hC:BK d m)(hf:m.G.fu=false)(hb:m.G.bg=true):Calls prog 146 #[P0 g.mb] w λe w'=>e=.returned (.tuple #[])/\mZ d m g w w':=by
 obtain⟨c3,_⟩:=h.mc 3 (by omega) (v:=.int .i64 d.wk) rfl;obtain⟨a1,a4⟩:=h.mc 17 (by omega) (v:=.bool m.G.bg) rfl;obtain⟨a2,a7⟩:=h.mc 18 (by omega) (v:=.int .i64 m.G.mW) rfl;obtain⟨aD,a8⟩:=h.mc 19 (by omega) (v:=.int .i64 m.G.sure) rfl;obtain⟨aE,a3⟩:=h.mc 20 (by omega) (v:=.int .i64 m.G.lO) rfl;obtain⟨aC,a6⟩:=h.mc 21 (by omega) (v:=.int .i64 m.G.fI) rfl;obtain⟨aB,aA⟩:=h.mc 22 (by omega) (v:=.int .i64 m.G.wi) rfl;obtain⟨a0,a5⟩:=h.mc 23 (by omega) (v:=.bool m.G.fu) rfl;have le:=h.M.lt;have Y:=az h;have a9:=az (nG h hC);rw[hf]at a0;have Z:=az hf;rw[hb]at a1;have u:=az hb;have HM:=az Y.M;generalize hl:m.G.mW=mW at *;generalize hu:m.G.fI=fI at *;generalize y:m.G.wi=wi at *;have o:=az (ay hl (ay hu y));by_cases J:mW<(d.wk:Int)
 .go_in;go_wp2_with fail
  go_end0;refine⟨rfl,mZ.mk' (N:=0) (G:={ m.G with mW:=0,fI:=wrap64 (fI+mW),bg:=false,wi:=wrap64 (wi+1),lO:=m.G.sure }) Y (ax _ _) (λ_ e=>by rw[u.out]at e;cases e) (by simp[Dc.rf,Dc.FG,Dc.Ef,Dc.F3,Dc.fin,Z.out,u.out,o.1,o.2.1,o.2.2,J,bd 0 (by omega)]) (eV (b:=g.mb) (S:=λk=>k=g.mb) rfl (eV (b:=g.mb) (S:=λk=>k=g.mb) rfl (eV (b:=g.mb) (S:=λk=>k=g.mb) rfl (eV (b:=g.mb) (S:=λk=>k=g.mb) rfl (eV (b:=g.mb) (S:=λk=>k=g.mb) rfl (dk _ _) 18 _) 21 _) 17 _) 22 _) 20 _) (((((((HM).ep 18 _).ep 21 _).ep 17 _).ep 22 _).ep 20 _).congr (λi hi=>?_))⟩;have H:i=0\/i=1\/i=2\/i=3\/i=4\/i=5\/i=6\/i=7\/i=8\/i=9\/i=10\/i=11\/i=12\/i=13\/i=14\/i=15\/i=16\/i=17\/i=18\/i=19\/i=20\/i=21\/i=22\/i=23:=by omega
  rcases H with rfl|rfl|rfl|rfl|rfl|rfl|rfl|rfl|rfl|rfl|rfl|rfl|rfl|rfl|rfl|rfl|rfl|rfl|rfl|rfl|rfl|rfl|rfl|rfl<;>rfl
 have W:=az J;by_cases hz:wrap64 (mW-(d.wk:Int))=0
 .go_in;go_wp2_with fail
  go_end0;refine⟨rfl,mZ.mk' (N:=0) (G:={ m.G with mW:=0,fI:=wrap64 (fI+(d.wk:Int)),bg:=false,wi:=wrap64 (wi+1),lO:=m.G.sure }) Y (ax _ _) (λ_ e=>by rw[u.out]at e;cases e) (by simp[Dc.rf,Dc.FG,Dc.Ef,Dc.F3,Dc.fin,Z.out,u.out,o.1,o.2.1,o.2.2,aa (by omega:¬mW<(d.wk:Int)),hz]) (eV (b:=g.mb) (S:=λk=>k=g.mb) rfl (eV (b:=g.mb) (S:=λk=>k=g.mb) rfl (eV (b:=g.mb) (S:=λk=>k=g.mb) rfl (eV (b:=g.mb) (S:=λk=>k=g.mb) rfl (eV (b:=g.mb) (S:=λk=>k=g.mb) rfl (dk _ _) 18 _) 21 _) 17 _) 22 _) 20 _) (((((((HM).ep 18 _).ep 21 _).ep 17 _).ep 22 _).ep 20 _).congr (λi hi=>?_))⟩;have H:i=0\/i=1\/i=2\/i=3\/i=4\/i=5\/i=6\/i=7\/i=8\/i=9\/i=10\/i=11\/i=12\/i=13\/i=14\/i=15\/i=16\/i=17\/i=18\/i=19\/i=20\/i=21\/i=22\/i=23:=by omega
  rcases H with rfl|rfl|rfl|rfl|rfl|rfl|rfl|rfl|rfl|rfl|rfl|rfl|rfl|rfl|rfl|rfl|rfl|rfl|rfl|rfl|rfl|rfl|rfl|rfl<;>rfl
 go_in;go_wp2_with fail
 go_end0;refine⟨rfl,mZ.mk' (N:=0) (G:={ m.G with mW:=wrap64 (mW-(d.wk:Int)),fI:=wrap64 (fI+(d.wk:Int)) }) Y (ax _ _) (λ_ e=>by rw[u.out]at e;cases e) (by simp[Dc.rf,Dc.FG,Dc.Ef,Dc.F3,Dc.fin,Z.out,u.out,o.1,o.2.1,o.2.2,aa (by omega:¬mW<(d.wk:Int)),hz]) (eV (b:=g.mb) (S:=λk=>k=g.mb) rfl (eV (b:=g.mb) (S:=λk=>k=g.mb) rfl (dk _ _) 18 _) 21 _) ((((HM).ep 18 _).ep 21 _).congr (λi hi=>?_))⟩;have H:i=0\/i=1\/i=2\/i=3\/i=4\/i=5\/i=6\/i=7\/i=8\/i=9\/i=10\/i=11\/i=12\/i=13\/i=14\/i=15\/i=16\/i=17\/i=18\/i=19\/i=20\/i=21\/i=22\/i=23:=by omega
 rcases H with rfl|rfl|rfl|rfl|rfl|rfl|rfl|rfl|rfl|rfl|rfl|rfl|rfl|rfl|rfl|rfl|rfl|rfl|rfl|rfl|rfl|rfl|rfl|rfl<;>rfl
theorem kg.le{N:Nat}(h:kg d m N)(i:BK d m):N<=m.nc:=by
 obtain⟨l,u,o,rfl⟩:=h;exact gn m.nc l u (λc e=>⟨(i.c c ((o c).1 e)).1,(i.c c ((o c).1 e)).2.1⟩)
theorem JP(h:dQ d m g w)(hC:BK d m)(hf:m.G.fu=false)(hb:m.G.bg=false)(b7:d.n<=1000000):Calls prog 146 #[P0 g.mb] w λe w'=>e=.returned (.tuple #[])/\mZ d m g w w':=by
 obtain⟨c1,_⟩:=h.mc 1 (by omega) (v:=.int .i64 d.n) rfl;obtain⟨c3,_⟩:=h.mc 3 (by omega) (v:=.int .i64 d.wk) rfl;obtain⟨Z,a1⟩:=h.mc 17 (by omega) (v:=.bool m.G.bg) rfl;obtain⟨aG,a6⟩:=h.mc 18 (by omega) (v:=.int .i64 m.G.mW) rfl;obtain⟨aE,a9⟩:=h.mc 19 (by omega) (v:=.int .i64 m.G.sure) rfl;obtain⟨aF,aH⟩:=h.mc 20 (by omega) (v:=.int .i64 m.G.lO) rfl;obtain⟨aK,a2⟩:=h.mc 21 (by omega) (v:=.int .i64 m.G.fI) rfl;obtain⟨aI,aC⟩:=h.mc 22 (by omega) (v:=.int .i64 m.G.wi) rfl;obtain⟨a3,aU⟩:=h.mc 23 (by omega) (v:=.bool m.G.fu) rfl;have le:=h.M.lt;have HR:=az h;have aB:=az (nG h hC);have a4:=az (ay (λN (hN:kg d m N)=>hN.le hC) hC.n2);clear h hC;rw[hf]at a3;have HF:=az hf;clear hf;rw[hb]at Z;have HB:=az hb;clear hb;generalize hu:m.G.fI=fI at *;generalize a5:m.G.wi=wi at *;have H:=az (ay hu a5);clear hu a5;go_in;go_wp2_with fail
 refine aB.mono ?_;rintro e w2 ⟨N,rfl,hN,u⟩;have HG:=az u;have HN:=az hN;have HM:Hid (Full w2 g.mb 112 24 24 (mE d m g)):=(HR.kept u).M;have e1:=(bh u (a:=⟨g.mb,1,none⟩) le).1.trans c1;have e3:=(bh u (a:=⟨g.mb,3,none⟩) le).1.trans c3;have aQ:=(bh u (a:=⟨g.mb,17,none⟩) le).1.trans Z;have aN:=(bh u (a:=⟨g.mb,17,none⟩) le).2.trans a1;have aM:=(bh u (a:=⟨g.mb,18,none⟩) le).1.trans aG;have aV:=(bh u (a:=⟨g.mb,18,none⟩) le).2.trans a6;have aP:=(bh u (a:=⟨g.mb,19,none⟩) le).1.trans aE;have aW:=(bh u (a:=⟨g.mb,19,none⟩) le).2.trans a9;clear u aB c1 c3 Z aG aE aF aK aI a3 a1 a6 a9 aH a2 aC aU;have aZ:N<=1000000000:=by have h1:=a4.1 N hN;have h2:=a4.2;omega
 clear hN;have qb:IntKind.i64.wrap ((N:Int)+(d.n:Int))=(N:Int)+(d.n:Int):=by rw[bl,bd _ (by omega)]
 have QW:Hid (wrap64 ((N:Int)+(d.n:Int))=(N:Int)+(d.n:Int)):=bd _ (by omega);go_upto_region 8 with fail
 generalize hl:(N:Int)+(d.n:Int)=mW at *;have HL:Hid (wrap64 ((N:Int)+(d.n:Int))=mW):=(congrArg wrap64 hl).trans QW;clear hl;have o:Hid (Full (((w2.setCell ⟨g.mb,17,none⟩ (.bool true)).setCell ⟨g.mb,18,none⟩ (.int .i64 mW)).setCell ⟨g.mb,19,none⟩ (.int .i64 N)) g.mb 112 24 24 (ep (ep (ep (mE d m g) 17 (.bool true)) 18 (.int .i64 mW)) 19 (.int .i64 N))):=((HM.ep 17 _).ep 18 _).ep 19 _;have a0:Hid (dy (λk=>k=g.mb) w2 (((w2.setCell ⟨g.mb,17,none⟩ (.bool true)).setCell ⟨g.mb,18,none⟩ (.int .i64 mW)).setCell ⟨g.mb,19,none⟩ (.int .i64 N))):=eV (b:=g.mb) (S:=λk=>k=g.mb) rfl (eV (b:=g.mb) (S:=λk=>k=g.mb) rfl (eV (b:=g.mb) (S:=λk=>k=g.mb) rfl (dk _ _) 17 _) 18 _) 19 _;clear e1 e3 aQ aM aP aN aV aW;generalize (((w2.setCell ⟨g.mb,17,none⟩ (.bool true)).setCell ⟨g.mb,18,none⟩ (.int .i64 mW)).setCell ⟨g.mb,19,none⟩ (.int .i64 N))=y at *;have J:y.cell? ⟨g.mb,17,none⟩=some (.bool true)/\y.frozen? ⟨g.mb,17,none⟩=false:=o.cells 17 (by omega);have aD:y.cell? ⟨g.mb,18,none⟩=some (.int .i64 mW)/\y.frozen? ⟨g.mb,18,none⟩=false:=o.cells 18 (by omega);have a8:y.cell? ⟨g.mb,19,none⟩=some (.int .i64 N)/\y.frozen? ⟨g.mb,19,none⟩=false:=o.cells 19 (by omega);have a7:y.cell? ⟨g.mb,20,none⟩=some (.int .i64 m.G.lO)/\y.frozen? ⟨g.mb,20,none⟩=false:=o.cells 20 (by omega);have W:y.cell? ⟨g.mb,21,none⟩=some (.int .i64 m.G.fI)/\y.frozen? ⟨g.mb,21,none⟩=false:=o.cells 21 (by omega);have Y:y.cell? ⟨g.mb,22,none⟩=some (.int .i64 m.G.wi)/\y.frozen? ⟨g.mb,22,none⟩=false:=o.cells 22 (by omega);rw[H.1]at W;rw[H.2]at Y;obtain⟨J,b1⟩:=J;obtain⟨aD,b5⟩:=aD;obtain⟨a8,b6⟩:=a8;obtain⟨a7,b3⟩:=a7;obtain⟨W,b0⟩:=W;obtain⟨Y,b2⟩:=Y;by_cases aA:mW<(d.wk:Int)
 .go_wp2_with fail
  go_end0;refine⟨rfl,mZ.mk' (N:=N) (G:={ m.G with mW:=0,sure:=N,fI:=wrap64 (fI+mW),bg:=false,wi:=wrap64 (wi+1),lO:=N }) HR HG (λ_ _=>HN) (by simp[Dc.rf,Dc.FG,Dc.Ef,Dc.F3,Dc.fin,HF.out,HB.out,H.1,H.2,HL.out,aA,bd 0 (by omega)]) (eV (b:=g.mb) (S:=λk=>k=g.mb) rfl (eV (b:=g.mb) (S:=λk=>k=g.mb) rfl (eV (b:=g.mb) (S:=λk=>k=g.mb) rfl (eV (b:=g.mb) (S:=λk=>k=g.mb) rfl (eV (b:=g.mb) (S:=λk=>k=g.mb) rfl (a0) 18 _) 21 _) 17 _) 22 _) 20 _) (((((((o).ep 18 _).ep 21 _).ep 17 _).ep 22 _).ep 20 _).congr (λi hi=>?_))⟩;have hc:i=0\/i=1\/i=2\/i=3\/i=4\/i=5\/i=6\/i=7\/i=8\/i=9\/i=10\/i=11\/i=12\/i=13\/i=14\/i=15\/i=16\/i=17\/i=18\/i=19\/i=20\/i=21\/i=22\/i=23:=by omega
  rcases hc with rfl|rfl|rfl|rfl|rfl|rfl|rfl|rfl|rfl|rfl|rfl|rfl|rfl|rfl|rfl|rfl|rfl|rfl|rfl|rfl|rfl|rfl|rfl|rfl<;>rfl
 have aJ:=az aA;by_cases hz:wrap64 (mW-(d.wk:Int))=0
 .go_wp2_with fail
  go_end0;refine⟨rfl,mZ.mk' (N:=N) (G:={ m.G with mW:=0,sure:=N,fI:=wrap64 (fI+(d.wk:Int)),bg:=false,wi:=wrap64 (wi+1),lO:=N }) HR HG (λ_ _=>HN) (by simp[Dc.rf,Dc.FG,Dc.Ef,Dc.F3,Dc.fin,HF.out,HB.out,H.1,H.2,HL.out,aa (by omega:¬mW<(d.wk:Int)),hz]) (eV (b:=g.mb) (S:=λk=>k=g.mb) rfl (eV (b:=g.mb) (S:=λk=>k=g.mb) rfl (eV (b:=g.mb) (S:=λk=>k=g.mb) rfl (eV (b:=g.mb) (S:=λk=>k=g.mb) rfl (eV (b:=g.mb) (S:=λk=>k=g.mb) rfl (a0) 18 _) 21 _) 17 _) 22 _) 20 _) (((((((o).ep 18 _).ep 21 _).ep 17 _).ep 22 _).ep 20 _).congr (λi hi=>?_))⟩;have hc:i=0\/i=1\/i=2\/i=3\/i=4\/i=5\/i=6\/i=7\/i=8\/i=9\/i=10\/i=11\/i=12\/i=13\/i=14\/i=15\/i=16\/i=17\/i=18\/i=19\/i=20\/i=21\/i=22\/i=23:=by omega
  rcases hc with rfl|rfl|rfl|rfl|rfl|rfl|rfl|rfl|rfl|rfl|rfl|rfl|rfl|rfl|rfl|rfl|rfl|rfl|rfl|rfl|rfl|rfl|rfl|rfl<;>rfl
 go_wp2_with fail
 go_end0;refine⟨rfl,mZ.mk' (N:=N) (G:={ m.G with mW:=wrap64 (mW-(d.wk:Int)),sure:=N,fI:=wrap64 (fI+(d.wk:Int)),bg:=true }) HR HG (λ_ _=>HN) (by simp[Dc.rf,Dc.FG,Dc.Ef,Dc.F3,Dc.fin,HF.out,HB.out,H.1,H.2,HL.out,aa (by omega:¬mW<(d.wk:Int)),hz]) (eV (b:=g.mb) (S:=λk=>k=g.mb) rfl (eV (b:=g.mb) (S:=λk=>k=g.mb) rfl (a0) 18 _) 21 _) ((((o).ep 18 _).ep 21 _).congr (λi hi=>?_))⟩;have hc:i=0\/i=1\/i=2\/i=3\/i=4\/i=5\/i=6\/i=7\/i=8\/i=9\/i=10\/i=11\/i=12\/i=13\/i=14\/i=15\/i=16\/i=17\/i=18\/i=19\/i=20\/i=21\/i=22\/i=23:=by omega
 rcases hc with rfl|rfl|rfl|rfl|rfl|rfl|rfl|rfl|rfl|rfl|rfl|rfl|rfl|rfl|rfl|rfl|rfl|rfl|rfl|rfl|rfl|rfl|rfl|rfl<;>rfl
theorem DK(h:dQ d m g w)(i:BK d m)(o:d.n<=1000000):Calls prog 146 #[P0 g.mb] w λe w'=>e=.returned (.tuple #[])/\mZ d m g w w':=by
 cases hf:m.G.fu with
 | true=>exact JQ h i hf
 | false=>
  cases hb:m.G.bg with
  | true=>exact JO h i hf hb
  | false=>exact JP h i hf hb o
