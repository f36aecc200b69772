import Derived.Test.YtnjiinbhbjpfkaaGreatDoorKV
set_option maxRecDepth 100000
set_option maxHeartbeats 0
set_option linter.all false
namespace Go.Proofs.YtnjiinbhbjpfkaaGreatDoor
open Go.RowKit Go.Proofs.Tryz
section
def Gi(w w7:World)(eb sb pb ac g nf n:Nat)(q wk t:Int):Prop:=w.heap.size<=eb/\w.heap.size<=sb/\w.heap.size<=pb/\w.heap.size<=ac/\Below w.heap.size w w7/\(∀k x,(lQ (ac+1))[k]? = some x->w7.heap[ac+1+k]? = some (.cells #[x.1] x.2 (0,0)))/\jm w7 sb pb eb n B.EZ Ax (λ_=>[])/\Full w7 eb 144 44 44 (ep (Bq (.slice (some ⟨g,0,none⟩) nf nf) q wk t ac) 27 (P0 sb))
theorem Fp(g nf:Nat)(c1 c2 c3:Int)(J:Nat)(R:Nat->World->Prop)(w:World)(aQ:1<=J)(aG:J<=200)(H:∀w7 eb sb pb ac,Gi w w7 eb sb pb ac g nf J c1 c2 c3->Calls prog 60 #[P0 eb,.int .i64 0,vA (0,0),vA (0,0)] w7 λe w'=>(∃x:Int,e=.returned (.int .i64 x))/\Below w.heap.size w7 w'/\R eb w'): Calls prog 38 #[.slice (some ⟨g,0,none⟩) nf nf,.agg #[.int .i64 J,.int .i64 c1,.int .i64 c2,.int .i64 c3]] w λe w'=>∃eb,e=.returned (P0 eb)/\Below w.heap.size w w'/\R eb w':=by
 have HH:=az H;clear H;go_in;go_wp2_with fail
 generalize o:w.alloc (.cells #[.int .i64 J,.int .i64 c1,.int .i64 c2,.int .i64 c3] 23)=w1;have aB:w1.heap.size=w.heap.size+1:=by rw[<-o];simp
 have b0:w1.cell? ⟨w.heap.size,0,none⟩=some (.int .i64 J):=by rw[<-o];simp[go_sem]
 have b1:w1.cell? ⟨w.heap.size,1,none⟩=some (.int .i64 c1):=by rw[<-o];simp[go_sem]
 have b2:w1.cell? ⟨w.heap.size,2,none⟩=some (.int .i64 c2):=by rw[<-o];simp[go_sem]
 have b3:w1.cell? ⟨w.heap.size,3,none⟩=some (.int .i64 c3):=by rw[<-o];simp[go_sem]
 have a7:Hid (Below w.heap.size w w1):=by show Below _ _ _;rw[<-o];exact(eM _ _).alloc (bj _) _
 clear o;generalize hN:w.heap.size=N at *;have l0:N<w1.heap.size:=by omega
 have hS:Hid (w1.drew.heap.size=N+1):=aB;go_cut [5] from 6 to 15 (λx wx=>∃(w2:World),x=P0 w2.heap.size/\wx=w2.alloc (.cells (xR (.slice (some ⟨g,0,none⟩) nf nf) c1 c2 c3 (N+1)) 144)/\Hid (Below w1.heap.size w1 w2)/\w2.heap.size=N+34/\Hid (∀k x,(lQ (N+1+1))[k]? = some x->w2.heap[N+1+1+k]? = some (.cells #[x.1] x.2 (0,0))))
 case first=>
  go_region_with (go_at_call 57;refine(BD (N+1) w1.drew hS).mono ?_;rintro e w2 ⟨rfl,i,u,aF⟩;have aU:w2.cell? ⟨N,1,none⟩=some (.int .i64 c1):=((i.cell (p:=⟨N,1,none⟩) l0).trans b1);have aR:w2.cell? ⟨N,2,none⟩=some (.int .i64 c2):=((i.cell (p:=⟨N,2,none⟩) l0).trans b2);have aV:w2.cell? ⟨N,3,none⟩=some (.int .i64 c3):=((i.cell (p:=⟨N,3,none⟩) l0).trans b3);have Y:=az aF;clear aF)
  all_goals
   go_wp2_with fail
   go_meet
   case rel=>exact⟨w2,by rw[u],rfl,⟨i.os,i.tape,i.output,i.size,i.block⟩,u,Y⟩
 case rest=>
  obtain⟨w2,rfl,y,i,u,Y⟩:=hcut;have aY:wc.heap.size=N+35:=by rw[y];simp;omega
  have a9:Hid (Below N w wc):=by
   show Below _ _ _;rw[y];exact(a7.out.trans (i.out.mono (by omega))).alloc (by omega) _
  have aD:Hid (∀k x,(lQ (N+1+1))[k]? = some x->wc.heap[N+1+1+k]? = some (.cells #[x.1] x.2 (0,0))):=λk x hx=>by
   have:=Y.out k x hx;rw[y,ak _ _ _ (bz this)];exact this
  have aJ:wc.cell? ⟨N,0,none⟩=some (.int .i64 J):=by
   have e1:wc.cell? ⟨N,0,none⟩=w2.cell? ⟨N,0,none⟩:=by rw[y];exact aw (ak _ _ _ (by show N<_;omega))
   rw[e1];exact(i.out.cell (p:=⟨N,0,none⟩) l0).trans b0
  have a6:wc.heap[N+34]? = some (.cells (xR (.slice (some ⟨g,0,none⟩) nf nf) c1 c2 c3 (N+1)) 144 (0,0)):=by rw[y,<-u];exact bf _ _
  have a2:=az (Bp a6);obtain⟨a3,aP⟩:=a2.out.cells 27 (by omega);have a3:wc.cell? ⟨N+34,27,none⟩=some (.pointer none):=a3;rw[u];clear y a6 i b0 b1 b2 b3 a7 aB l0 hS u Y;generalize hE:N+34=eb at *;go_wp2_with fail
  refine(vP J eb aQ aG _).mono ?_;rintro e w4 ⟨sb,pb,rfl,G,aW,aZ,aE⟩;have aT:=G.size;have a0:=az (a2.out.block (G.block eb (by omega) (by intro e;cases e)));obtain⟨a1,aO⟩:=a0.out.cells 27 (by omega);have a1:w4.cell? ⟨eb,27,none⟩=some (.pointer none):=a1;have a8:Hid (Below N w w4):=a9.out.trans ((tI G).mono (by omega));have W:=az aE;have a4:Hid (∀k x,(lQ (N+1+1))[k]? = some x->w4.heap[N+1+1+k]? = some (.cells #[x.1] x.2 (0,0))):=λk x hx=>dp G (aD.out k x hx);have aS:eb<w4.heap.size:=by omega
  clear G aE a3 aP a2 a9 aD aJ;go_wp2_with fail
  refine(fH 0 _).mono ?_;rintro e w5 ⟨rfl,rfl⟩;go_wp2_with fail
  refine(fH 0 _).mono ?_;rintro e w6 ⟨rfl,rfl⟩;go_wp2_with fail
  generalize hW:((w4.setCell ⟨eb,27,none⟩ (P0 sb)).alloc (.cells #[.int .i64 0,.int .i64 0] 149)).alloc (.cells #[.int .i64 0,.int .i64 0] 149)=w7;have aX:w7.heap.size=w4.heap.size+2:=by rw[<-hW];simp[World.setCell]
  have Z:∀k,k<w4.heap.size->k≠eb->w7.heap[k]? = w4.heap[k]?:=λk hk aM=>by rw[<-hW,ak _ _ _ (by simp[World.setCell];omega),ak _ _ _ (by simp[World.setCell];omega),af _ _ _ _ aM]
  have aH:Hid (Full w7 eb 144 44 44 (ep (Bq (.slice (some ⟨g,0,none⟩) nf nf) c1 c2 c3 (N+1)) 27 (P0 sb))):=by
   show Full _ _ _ _ _ _;rw[<-hW];exact((a0.out.ep 27 _).block (ak _ _ _ (by simp[World.setCell];omega))).block (ak _ _ _ (by simp[World.setCell];omega))
  have aC:Hid (Below N w w7):=by
   show Below _ _ _;rw[<-hW];exact((a8.out.setCell (by show N<=eb;omega) _).alloc (by simp[World.setCell];omega) _).alloc (by simp[World.setCell];omega) _
  have aN:Hid (jm w7 sb pb eb J B.EZ Ax (λ_=>[])):=W.out.block (Z sb (bz W.out.b) (by omega)) (Z pb W.out.p.p.lt (by omega)) (λk hk=>by
   rcases hk with⟨p,_,_,h,_⟩|⟨h,_⟩
   .cases h
   cases h)
  have aI:Hid (∀k x,(lQ (N+1+1))[k]? = some x->w7.heap[N+1+1+k]? = some (.cells #[x.1] x.2 (0,0))):=λk x hx=>by
   have h:=a4.out k x hx;refine(Z _ (bz h) ?_).trans h;intro e;rw[e]at h;obtain⟨c5,h5,h6,_⟩:=a0.out;rw[h5]at h;injection h with h;injection h with h _ _
   rw[h]at h6;simp at h6
  clear hW Z a0 a8 W a4 a1 aO;have aL:Hid (Gi w w7 eb sb pb (N+1) g nf J c1 c2 c3):=⟨by omega,by omega,by omega,by omega,by rw[hN];exact aC.out,aI.out,aN.out,aH.out⟩;refine(HH.out w7 eb sb pb (N+1) aL.out).mono ?_;rintro e w8 ⟨⟨x,rfl⟩,aA,a5⟩;have aK:Hid (Below N w w8):=aC.out.trans aA;have HR:=az a5;clear aA a5;go_wp2_with fail
  go_ret;exact⟨eb,rfl,by rw[hN];exact aK.out,HR.out⟩
