import Derived.Test.YtnjiinbhbjpfkaaGreatDoorAb
set_option maxRecDepth 100000
set_option maxHeartbeats 0
set_option linter.all false
namespace Go.Proofs.YtnjiinbhbjpfkaaGreatDoor
open Go.RowKit Go.Proofs.Tryz
section
def JI(w w7:aa)(eb sb pb ac g nf n:Nat)(q wk t:Int):Prop:=w.heap.size<=eb/\w.heap.size<=sb/\w.heap.size<=pb/\w.heap.size<=ac/\Below w.heap.size w w7/\(∀k x,(nZ<|ac+1)[k]?=some x->w7.heap[ac+1+k]?=some (.cells #[x.1] x.2 (0,0)))/\kG w7 sb pb eb n B.tX Co (λ_=>[])/\Full w7 eb 144 44 44 (eE (DC (.slice (some ⟨g,0,none⟩) nf nf) q wk t ac) 27<|P0 sb)
theorem IT(g nf:Nat)(c1 c2 c3:Int)(J:Nat)(R:Nat->aa->Prop)(w:aa)(aQ:1<=J)(aG:J<=200)(H:∀w7 eb sb pb ac,JI w w7 eb sb pb ac g nf J c1 c2 c3->Calls prog 60 #[P0 eb,ah 0,vA (0,0),vA (0,0)] w7 λe w'=>(∃x:Int,e=.returned (ah x))/\Below w.heap.size w7 w'/\R eb w'):Calls prog 38 #[dD g nf nf,.agg #[ah J,ah c1,ah c2,ah c3]] w λe w'=>∃eb,e=.returned (P0 eb)/\Below w.heap.size w w'/\R eb w':=by
 change Hid _ at H;go_in;go_wp2_with fail
 generalize o:w.alloc (.cells #[ah J,ah c1,ah c2,ah c3] 23)=w1;have aB:w1.heap.size=w.heap.size+1:=by rw[<-o];simp
 have b0:dW w1 w.heap.size 0=some (ah J):=by rw[<-o];simp[go_sem]
 have b1:dW w1 w.heap.size 1=some (ah c1):=by rw[<-o];simp[go_sem]
 have b2:dW w1 w.heap.size 2=some (ah c2):=by rw[<-o];simp[go_sem]
 have b3:dW w1 w.heap.size 3=some (ah c3):=by rw[<-o];simp[go_sem]
 have a7:Hid (Below w.heap.size w w1):=by show Below _ _ _;rw[<-o];exact(fS _ _).alloc (bm _) _
 clear o;generalize hN:w.heap.size=N at*;have l0:N<w1.heap.size:=af
 have hS:Hid (w1.drew.heap.size=N+1):=aB;go_cut[5] from 6 to 15 (λx wx=>∃(w2:aa),x=P0 w2.heap.size/\wx=w2.alloc (.cells (zY (dD g nf nf) c1 c2 c3<|N+1) 144)/\Hid (Below w1.heap.size w1 w2)/\w2.heap.size=N+34/\Hid (∀k x,(nZ<|N+1+1)[k]?=some x->w2.heap[N+1+1+k]?=some (.cells #[x.1] x.2 (0,0))))
 case first=>
  go_region_with (go_at_call 57;refine dq (DP (N+1) w1.drew hS) ?_;rintro w2 ⟨i,u,aF⟩;have aU:dW w2 N 1=some (ah c1):=((i.cell (p:=az N 1) l0).trans b1);have aR:dW w2 N 2=some (ah c2):=((i.cell (p:=az N 2) l0).trans b2);have aV:dW w2 N 3=some (ah c3):=((i.cell (p:=az N 3) l0).trans b3);have Y:=bj aF;clear aF)
  all_goals
   go_wp2
   go_meet
   case rel=>exact⟨w2,by rw[u],rfl,⟨i.os,i.tape,i.output,i.size,i.block⟩,u,Y⟩
 case rest=>
  obtain⟨w2,rfl,y,i,u,Y⟩:=hcut;have aY:wc.heap.size=N+35:=by rw[y];simp;omega
  have a9:Hid (Below N w wc):=by
   show Below _ _ _;rw[y];exact(a7.trans<|i.mono af).alloc af _
  have aD:Hid (∀k x,(nZ<|N+1+1)[k]?=some x->wc.heap[N+1+1+k]?=some (.cells #[x.1] x.2 (0,0))):=λk x hx=>by
   have:=Y k x hx;rw[y,au _ _ _<|ch this];exact this
  have aJ:dW wc N 0=some (ah J):=by
   have e1:dW wc N 0=dW w2 N 0:=by rw[y];exact bd<|au _ _ _ (by show N<_;omega)
   rw[e1];exact(i.cell (p:=az N 0) l0).trans b0
  have a6:wc.heap[N+34]?=some (.cells (zY (dD g nf nf) c1 c2 c3<|N+1) 144 (0,0)):=by rw[y,<-u];exact bl _ _
  have a2:=bj<|DB a6;obtain⟨a3,aP⟩:=a2.cells 27 af;have a3:dW wc (N+34) 27=some (.pointer none):=a3;rw[u];clear y a6 i b0 b1 b2 b3 a7 aB l0 hS u Y;generalize hE:N+34=eb at*;go_wp2_with fail
  refine(yl J eb aQ aG _).mono ?_;rintro e w4 ⟨sb,pb,rfl,G,aW,aZ,aE⟩;have aT:=G.size;have a0:=bj<|a2.block<|G.block eb af je;obtain⟨a1,aO⟩:=a0.cells 27 af;have a1:dW w4 eb 27=some (.pointer none):=a1;have a8:Hid (Below N w w4):=a9.trans<|(vN G).mono af;have W:=bj aE;have a4:Hid (∀k x,(nZ<|N+1+1)[k]?=some x->w4.heap[N+1+1+k]?=some (.cells #[x.1] x.2 (0,0))):=λk x hx=>dw G<|aD k x hx;have aS:eb<w4.heap.size:=af
  clear G aE a3 aP a2 a9 aD aJ;go_wp2_with fail
  refine dq (fK 0 _) ?_;rintro w5 rfl;go_wp2_with fail
  refine dq (fK 0 _) ?_;rintro w6 rfl;go_wp2_with fail
  generalize hW:((w4.setCell (az eb 27)<|P0 sb).alloc<|.cells #[ah 0,ah 0] 149).alloc (.cells #[ah 0,ah 0] 149)=w7;have aX:w7.heap.size=w4.heap.size+2:=by rw[<-hW];simp[World.setCell]
  have Z:∀k,k<w4.heap.size->k≠eb->w7.heap[k]?=w4.heap[k]?:=λk hk aM=>by rw[<-hW,au _ _ _ (by simp[World.setCell];omega),au _ _ _ (by simp[World.setCell];omega),ab _ _ _ _ aM]
  have aH:Hid (Full w7 eb 144 44 44<|eE (DC (dD g nf nf) c1 c2 c3<|N+1) 27<|P0 sb):=by
   show Full _ _ _ _ _ _;rw[<-hW];exact((a0.eE 27 _).block<|au _ _ _ (by simp[World.setCell];omega)).block<|au _ _ _ (by simp[World.setCell];omega)
  have aC:Hid (Below N w w7):=by
   show Below _ _ _;rw[<-hW];exact((a8.setCell (by show N<=eb;omega) _).alloc (by simp[World.setCell];omega) _).alloc (by simp[World.setCell];omega) _
  have aN:Hid (kG w7 sb pb eb J B.tX Co<|λ_=>[]):=W.block (Z sb (ch W.b) af) (Z pb W.p.p.lt af) (λk hk=>by
   rcases hk with⟨p,_,_,h,_⟩|⟨h,_⟩
   .cases h
   cases h)
  have aI:Hid (∀k x,(nZ<|N+1+1)[k]?=some x->w7.heap[N+1+1+k]?=some (.cells #[x.1] x.2 (0,0))):=λk x hx=>by
   have h:=a4 k x hx;refine(Z _ (ch h) ?_).trans h;intro e;rw[e]at h;obtain⟨c5,h5,h6,_⟩:=a0;rw[h5]at h;injection h with h;injection h with h _ _
   rw[h]at h6;simp at h6
  clear hW Z a0 a8 W a4 a1 aO;have aL:Hid (JI w w7 eb sb pb (N+1) g nf J c1 c2 c3):=⟨af,af,af,af,eZ hN aC,aI,aN,aH⟩;refine(H w7 eb sb pb (N+1) aL).mono ?_;rintro e w8 ⟨⟨x,rfl⟩,aA,a5⟩;have aK:Hid (Below N w w8):=aC.trans aA;have HR:=bj a5;clear aA a5;go_wp2
  go_ret;exact⟨eb,rfl,eZ hN aK,HR⟩
