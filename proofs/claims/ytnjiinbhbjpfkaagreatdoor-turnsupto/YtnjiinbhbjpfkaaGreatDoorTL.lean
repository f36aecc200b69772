import Derived.Test.YtnjiinbhbjpfkaaGreatDoorTB
import Derived.Test.YtnjiinbhbjpfkaaGreatDoorTC
set_option maxRecDepth 100000
set_option maxHeartbeats 0
set_option linter.all false
namespace Go.Proofs.YtnjiinbhbjpfkaaGreatDoor
open Go.RowKit Go.Proofs.Tryz
section
theorem sn{S:Nat->Prop}{w:aa}(g:Nat)(e:S g):∀{w1:aa} (i:List Value) (o:Nat),dM S w w1->dM S w (w1.setCells g o i)
 | _,[],_,h=>h
 | _,_ :: r,o,h=>sn g e r (o+1) (bp h (af e) _)
def ig(u v:B.V):Nat->B.V:=λi=>if i=0 then u else if i=1 then v else(0,0)
def Ik(w w':aa)(tb s0 c0 r0 m ck:Nat)(ao:Option Addr)(fs:List Value)(bk:Value)(u v:B.V)(Tk:Nat->Value):Prop:=
 ∃kb ck' fb rb,Full w' tb 160 7 7 (eC Tk 1 (.slice (some ⟨kb,0,none⟩) (m+1) ck'))/\w'.ownsRow 0 184 1 (.slice (some ⟨kb,0,none⟩) (m+1) ck') (m+1) (fs++[P0 fb])/\Fr w' fb s0 c0 0 rb r0 bk (ig u v)/\w.heap.size<=fb/\w.heap.size<=rb/\dM (λk=>k=tb\/(Value.slice ao m ck).ownBlock=some k) w w'/\((Value.slice ao m ck).ownBlock=some kb\/w.heap.size<=kb)
theorem JZ(eb tb g nf y c0 r0 f m ck:Nat)(ao:Option Addr)(fs:List Value)(k:Fn)(ka kc:Array Value)(u v:B.V)(Tk:Nat->Value)(w:aa)(h0:w.cell? (ay eb 0)=some (dA g nf nf))(Z:w.cell? (ay g (f*2))=some (aj r0))(h2:w.cell? (ay g (f*2+1))=some (dA y c0 c0))(hT:Full w tb 160 7 7 Tk)(b7:Tk 1=.slice ao m ck)(hK:w.ownsRow 0 184 1 (.slice ao m ck) m fs)(hm:m<=1000)(he:eb<w.heap.size)(hg:g<w.heap.size)(hf:f<nf)(hr:2<=r0)(c7:r0<=8): eL 119 #[P0 eb,P0 tb,aj f,vA u,vA v,.func k ka kc] w λw'=>Ik w w' tb y c0 r0 m ck ao fs (.func k ka kc) u v Tk:=by
 obtain⟨u1,u2⟩:=u;obtain⟨v1,v2⟩:=v;obtain⟨i0,hi,aV,aR,aZ⟩:=info_parts Tryz.tL;have c5:(f:Int)<(nf:Int):=ag
 have bQ:=hT.lt;have HT:=bj hT;have aK:=bj b7;have HK:=bj hK;clear hT b7 hK;have bV:eb<w.heap.size+1:=ag
 have bW:g<w.heap.size+1:=ag;delta eL;go_in;go_wp2_with (at_make;go_loud (refine wpList_make_full _ rfl _ _ 137 rfl 0 149 i0 _ 2 underlying137 hi aV aR _ _ _ _ r0 rfl rfl rfl rfl (kr aZ) pY (dk _) ?_))
 intro w3 aH Y;have hz:=Y.size;simp at hz;have b4:=Cx aH;have bD:(w.alloc (.cells #[aj (u1:Int),aj u2] 149)).heap.size=w.heap.size+1:=eB
 have x0:=da Y (show(((w.alloc (.cells #[aj (u1:Int),aj u2] 149)).alloc (.cells #[aj (v1:Int),aj v2] 149)).alloc (.cells #[aj (r0:Int),dA y c0 c0] 178)).heap[w.heap.size]? = some (.cells #[aj (u1:Int),aj u2] 149 (0,0)) by rw[av _ _ _ fH,av _ _ _ eB];exact bl _ _) im;have x1:=da Y (show(((w.alloc (.cells #[aj (u1:Int),aj u2] 149)).alloc (.cells #[aj (v1:Int),aj v2] 149)).alloc (.cells #[aj (r0:Int),dA y c0 c0] 178)).heap[w.heap.size+1]? = some (.cells #[aj (v1:Int),aj v2] 149 (0,0)) by rw[av _ _ _ eB,<-bD];exact bl _ _) im;have x2:=da Y (show(((w.alloc (.cells #[aj (u1:Int),aj u2] 149)).alloc (.cells #[aj (v1:Int),aj v2] 149)).alloc (.cells #[aj (r0:Int),dA y c0 c0] 178)).heap[w.heap.size+1+1]? = some (.cells #[aj (r0:Int),dA y c0 c0] 178 (0,0)) by(have:=bl ((w.alloc (.cells #[aj (u1:Int),aj u2] 149)).alloc (.cells #[aj (v1:Int),aj v2] 149)) (.cells #[aj (r0:Int),dA y c0 c0] 178);simpa using this)) im;have b6:Hid (w.grownBy w3 none):=ar (by repeat (first|exact aw _ _|refine ax ?_ _)) Y;have H:Full w3 (w.heap.size+1+1+1) 149 (r0*2) (r0*2) (eQ (λ_=>(0,0))):=gG b4
 have aW:=bj H;have a0:w3.cell? (ay w.heap.size 0)=some (aj (u1:Int)):=fy x0
 have a1:w3.cell? (ay w.heap.size 1)=some (aj u2):=fy x0;have b0:w3.cell? (ay (w.heap.size+1) 0)=some (aj (v1:Int)):=fy x1;have b1:w3.cell? (ay (w.heap.size+1) 1)=some (aj v2):=fy x1;obtain⟨k0,e0⟩:=H.cells 0 ag;obtain⟨k1,e1⟩:=H.cells 1 ag;obtain⟨k2,e2⟩:=H.cells 2 ag;obtain⟨k3,e3⟩:=H.cells 3 ag;rw[nR]at k0 k1 k2 k3
 have c2:(1:Int)<(r0:Int):=ag;have bB:=bj x2;clear aH Y b4 H x0 x1 x2 h0 Z h2 bD;go_wp2_with fail
 go_region
 generalize a8:World.drew ((((w3.setCell (ay (w.heap.size+1+1+1) 0) (aj (u1:Int))).setCell (ay (w.heap.size+1+1+1) 1) (aj u2)).setCell (ay (w.heap.size+1+1+1) 2) (aj (v1:Int))).setCell (ay (w.heap.size+1+1+1) 3) (aj v2))=i;have hb:∀b,b≠w.heap.size+1+1+1->i.heap[b]? = w3.heap[b]?:=by
  intro b hb;rw[<-a8];show(World.setCell _ _ _).heap[b]? = _;repeat (rw[ab _ _ _ _ (gG hb)])
 have aA:Hid (Full i (w.heap.size+1+1+1) 149 (r0*2) (r0*2) (eQ (ig (u1,u2) (v1,v2)))):=by
  show Full _ _ _ _ _ _;rw[<-a8];refine Full.congr (show Full (World.drew _) _ _ _ _ _ from(((aW.out.eC 0 (aj (u1:Int))).eC 1 (aj u2)).eC 2 (aj (v1:Int))).eC 3 (aj v2)) (λj _=>?_);by_cases j3:j<4
  .rcases(oU 3 j ag) with rfl|rfl|rfl|rfl<;>rfl
  rw[eN _ _ _ _ ag,eN _ _ _ _ ag,eN _ _ _ _ ag,eN _ _ _ _ ag];have e:ig (u1,u2) (v1,v2) (j / 2)=(0,0):=by unfold ig;rw[eD,eD]
  unfold eQ;rw[e]
 have bG:i.heap.size=w3.heap.size:=by rw[<-a8];simp[World.setCell,World.drew]
 have aB:Hid (w.grownBy i none):=by
  rw[<-a8];repeat (first|exact b6.out|refine bo ?_|refine bu ?_ (ah fH) _)
 have aE:=bj (HT.out.block (aB.out.block tb bQ im));have aM:=bj (dQ HK.out (λk h=>aB.out.block k (dP HK.out k h).2.1 im));have x2:=(hb (w.heap.size+1+1) ag).trans bB.out;have f1:i.cell? (ay (w.heap.size+1+1) 1)=some (dA y c0 c0):=fy x2
 obtain⟨t1,z1⟩:=aE.out.cells 1 ag;rw[aK.out]at t1;have aU:=aE.out.lt
 clear bG a8 hb x2 bB aW b6 a0 a1 b0 b1 k0 k1 k2 k3 e0 e1 e2 e3 hi aV aR aZ i0;obtain⟨j0,hj,bT,b8,bJ⟩:=info_parts Tryz.EU;have kt:∀x,(Value.slice ao m ck).ownBlock=some x->x≠tb:=λx h=>eU HK.out HT.out ek x h;have aJ:(ck<m+1/\(ao=none->m=0/\ck=0))\/(m+1<=ck/\∃G,ao=some (ay G 0)):=by
  rcases HK.out.2 with⟨h,h0⟩|⟨g',c',bO,Z,_,_,h4,_⟩
  .injection h with a1 a2 a3;exact af ⟨ag,λ_=>⟨a2,a3⟩⟩
  injection Z with a1 a2 a3;by_cases bN:m+1<=ck
  .exact ah ⟨bN,g',a1⟩
  exact af ⟨ag,λe=>by rw[a1]at e;cases e⟩
 have hW:∀x,x<i.heap.size->(((i.alloc (jo y c0 0 (w.heap.size+1+1+1) r0 (.func k ka kc))).alloc (.cells #[P0 i.heap.size] 184)).drew).heap[x]? = i.heap[x]?:=λx hx=>(av _ _ _ fH).trans (av _ _ _ hx);have aG:(((i.alloc (jo y c0 0 (w.heap.size+1+1+1) r0 (.func k ka kc))).alloc (.cells #[P0 i.heap.size] 184)).drew).heap.size=i.heap.size+2:=by show(World.alloc _ _).heap.size=_;simp
 have aC:(((i.alloc (jo y c0 0 (w.heap.size+1+1+1) r0 (.func k ka kc))).alloc (.cells #[P0 i.heap.size] 184)).drew).heap[i.heap.size]? = some (jo y c0 0 (w.heap.size+1+1+1) r0 (.func k ka kc)):=by show(World.alloc _ _).heap[_]? = _;rw[av _ _ _ eB];exact bl _ _
 have aP:(((i.alloc (jo y c0 0 (w.heap.size+1+1+1) r0 (.func k ka kc))).alloc (.cells #[P0 i.heap.size] 184)).drew).cell? (ay (i.heap.size+1) 0)=some (P0 i.heap.size):=by
  have Z:=bl (i.alloc (jo y c0 0 (w.heap.size+1+1+1) r0 (.func k ka kc))) (.cells #[P0 i.heap.size] 184);have h2:(i.alloc (jo y c0 0 (w.heap.size+1+1+1) r0 (.func k ka kc))).heap.size=i.heap.size+1:=eB
  rw[h2]at Z;have h3:(((i.alloc (jo y c0 0 (w.heap.size+1+1+1) r0 (.func k ka kc))).alloc (.cells #[P0 i.heap.size] 184)).drew).heap[i.heap.size+1]? = some (.cells #[P0 i.heap.size] 184 (0,0)):=Z;simp only[World.cell?,h3];rfl
 have aF:∀j u,[P0 i.heap.size][j]? = some u->(((i.alloc (jo y c0 0 (w.heap.size+1+1+1) r0 (.func k ka kc))).alloc (.cells #[P0 i.heap.size] 184)).drew).cell? (((ay (i.heap.size+1) 0):Addr).add j)=some u:=λj u hj=>by
  match j,hj with
  | 0,hj=>(simp at hj;subst hj;exact aP)
 have aD:i.grownBy (((i.alloc (jo y c0 0 (w.heap.size+1+1+1) r0 (.func k ka kc))).alloc (.cells #[P0 i.heap.size] 184)).drew) none:=bo (ax (ax (aw _ _) _) _);rcases aJ with⟨b2,a9⟩|⟨a5,G,rfl⟩
 .have aY:=HK.out.1;have a6:∀b,ao=some b->∀j u,fs[j]? = some u->(((i.alloc (jo y c0 0 (w.heap.size+1+1+1) r0 (.func k ka kc))).alloc (.cells #[P0 i.heap.size] 184)).drew).cell? (b.add j)=some u:=λb hb j u hu=>by
   subst hb;rcases aM.out.2 with⟨h,_⟩|⟨g',c',bO,Z,_⟩
   .cases h
   injection Z with Z _ _;injection Z with Z;subst Z;obtain⟨_,_,_,_,hB,hc⟩:=gZ aM.out;have h2:=hc j u hu;have h3:(((i.alloc (jo y c0 0 (w.heap.size+1+1+1) r0 (.func k ka kc))).alloc (.cells #[P0 i.heap.size] 184)).drew).cell? (ay g' j)=some u:=by
    simp only[World.cell?]at h2 ⊢;rw[hW g' hB.lt];exact h2
   cases j with
   | zero=>simpa[Addr.add] using h3
   | succ j=>simpa[Addr.add] using h3
  have aI:=bj (bh a9 (bh aY a6));have o:=bj (bh aG (bh aC (bh aF aD)));clear a9 aY a6 hW aG aC aP aF aD;go_wp2_with fail
  go_region_law (refine step_append_grows rfl (.tmp 34) (.tmp 41) 156 rfl 184 j0 (.pointer none) 1 8 underlying156 hj bT b8 bJ rfl ek ao m ck fs mB aI.out.1 aI.out.2.1 aI.out.2.2 (ay (i.heap.size+1) 0) 1 1 [P0 i.heap.size] mB rfl o.out.2.2.1 xI b2 pY ag ?_;intro v' w6 ho hg;obtain⟨G,bE,rfl⟩:=ee ho ag;have c3:=o.out.1▸(gZ ho).1;have aO:=bj (ar o.out.2.2.2 hg);have bM:Hid (w6.heap[i.heap.size]? = some (jo y c0 0 (w.heap.size+1+1+1) r0 (.func k ka kc))):=da hg o.out.2.1 im;have b5:=bj (gV ho (dk _));have J:=bj (aE.out.block (aO.out.block tb aU im));obtain⟨d1,bL⟩:=J.out.cells 1 ag;have bH:=J.out.lt;clear ho hg)
  all_goals
   go_wp2_with fail
   go_end0;have aL:w.heap.size+1+1+1≠tb:=ag
   have b9:=aA.out.lt;refine⟨rfl,G,bE,i.heap.size,w.heap.size+1+1+1,J.out.eC 1 _,dQ b5.out (λx h=>ab _ _ _ _ (eU b5.out J.out ek x h)),⟨(ab _ _ _ _ (show i.heap.size≠tb by omega)).trans bM.out,(aA.out.block (aO.out.block _ aA.out.lt im)).off aL,ag⟩,ag,ag,bp (ep (ar aB.out aO.out)) (af (af rfl)) _,ah ag⟩
 obtain⟨_,bZ,bC,aS,a7,b3⟩:=gZ aM.out;have aT:∀j,j < [P0 i.heap.size].length->((((i.alloc (jo y c0 0 (w.heap.size+1+1+1) r0 (.func k ka kc))).alloc (.cells #[P0 i.heap.size] 184)).drew).cell? (ay G (0+m*1+j))).isSome=true/\(((i.alloc (jo y c0 0 (w.heap.size+1+1+1) r0 (.func k ka kc))).alloc (.cells #[P0 i.heap.size] 184)).drew).frozen? (ay G (0+m*1+j))=false:=λj hj=>by
  have bR:j=0:=gG hj;subst bR;obtain⟨⟨v,h⟩,hf⟩:=a7.cell (0+m*1+0) ag;have hk:=hW G a7.lt;constructor
  .simp only[World.cell?]at h ⊢;rw[hk,h];rfl
  simp only[World.frozen?]at hf ⊢;rw[hk];exact hf
 have o:=bj (bh aG (bh aC (bh aF (bh aD (bh aT hW)))));have W:=bj (bh bC (bh aS (bh a7 b3)));have bK:G≠tb:=kt G rfl;have aQ:=a7.lt;clear hW aG aC aP aF aD aT bC aS a7 b3;go_wp2_with fail
 go_region_law (refine step_append_room rfl (.tmp 34) (.tmp 41) 156 rfl 184 j0 1 underlying156 hj b8 G 0 m ck mB (ay (i.heap.size+1) 0) 1 1 [P0 i.heap.size] mB rfl o.out.2.2.1 xI a5 o.out.2.2.2.2.1 ?_;generalize aX:World.setCells _ G _ _=w6;have a4:Hid (w6=(((i.alloc (jo y c0 0 (w.heap.size+1+1+1) r0 (.func k ka kc))).alloc (.cells #[P0 i.heap.size] 184)).drew).setCells G (0+m*1) [P0 i.heap.size]):=aX.symm;clear aX;have aN:Hid (∀x,x≠G->w6.heap[x]? = (((i.alloc (jo y c0 0 (w.heap.size+1+1+1) r0 (.func k ka kc))).alloc (.cells #[P0 i.heap.size] 184)).drew).heap[x]?):=(λx hx=>by rw[a4.out];exact fJ G x hx _ _ _);have J:=bj (aE.out.block ((aN.out tb (λe=>bK e.symm)).trans (o.out.2.2.2.2.2 tb aU)));obtain⟨d1,bL⟩:=J.out.cells 1 ag;have bH:=J.out.lt)
 all_goals
  rw[aK.out]at d1;go_wp2_with fail
  go_end0;have aL:w.heap.size+1+1+1≠tb:=ag
  have b9:=aA.out.lt;have bI:w.heap.size+1+1+1≠G:=by
   have:=(dP HK.out G rfl).2.1;omega
  have c4:w6.heap.size=i.heap.size+2:=by rw[a4.out,nC];exact o.out.1
  have bA:w6.ownsRow 0 184 1 (dA G (m+1) ck) (m+1) (fs++[P0 i.heap.size]):=by
   refine nD (dk _) a5 W.out.1 (by simp[W.out.2.1]) ?_ (λj x hx=>?_)
   .rw[a4.out];refine jF.wO G _ _ _ ?_;obtain⟨cu,q1,q2⟩:=W.out.2.2.1;exact⟨cu,(o.out.2.2.2.2.2 G aQ).trans q1,q2⟩
   rw[a4.out];by_cases hj:j<m
   .rw[World.cell?_setCells_out G _ _ _ _ (λ_ _=>af (by show j<0+m*1;omega))];rw[fk (eV W.out.2.1 hj)]at hx;have h2:=W.out.2.2.2 j x hx;simp only[World.cell?]at h2 ⊢;rw[o.out.2.2.2.2.2 G aQ];exact h2
   have bP:j=m:=by
    have:=(cf.1 hx).1;simp[W.out.2.1]at this;omega
   subst bP;rw[iy (by rw[W.out.2.1];exact bq _),W.out.2.1,Nat.sub_self]at hx;have:=World.cell?_setCells_in G [P0 i.heap.size] (0+j*1) (((i.alloc (jo y c0 0 (w.heap.size+1+1+1) r0 (.func k ka kc))).alloc (.cells #[P0 i.heap.size] 184)).drew) (λt ht=>(o.out.2.2.2.2.1 t ht).1) 0 eB;rw[show(0+j*1+0)=j by omega]at this;rw[this];exact hx
  have bF:dM (λx=>x=tb\/(Value.slice (some (ay G 0)) m ck).ownBlock=some x) w w6:=by
   rw[a4.out];exact sn G (ah rfl) _ _ (ep (ar aB.out o.out.2.2.2.1))
  have bS:w6.heap[i.heap.size]? = some (jo y c0 0 (w.heap.size+1+1+1) r0 (.func k ka kc)):=(aN.out _ ag).trans o.out.2.1;refine⟨rfl,G,ck,i.heap.size,w.heap.size+1+1+1,J.out.eC 1 _,dQ bA (λx h=>ab _ _ _ _ (eU bA J.out ek x h)),⟨(ab _ _ _ _ (show i.heap.size≠tb by omega)).trans bS,(aA.out.block ((aN.out _ bI).trans (o.out.2.2.2.2.2 _ b9))).off aL,ag⟩,ag,ag,bp bF (af (af rfl)) _,af rfl⟩
