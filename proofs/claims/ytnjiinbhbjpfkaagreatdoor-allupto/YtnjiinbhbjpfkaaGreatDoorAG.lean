import Derived.Test.YtnjiinbhbjpfkaaGreatDoorAB
import Derived.Test.YtnjiinbhbjpfkaaGreatDoorAC
import Derived.Shelf.Spec.SlicesInsertGrow
set_option maxRecDepth 100000
set_option maxHeartbeats 0
set_option linter.all false
namespace Go.Proofs.YtnjiinbhbjpfkaaGreatDoor
open Go.RowKit Go.Proofs.Tryz
section
theorem ta{S:Nat->Prop}{w:aa}(g:Nat)(e:S g):∀{w1:aa} (i:List Value) (o:Nat),dN S w w1->dN S w (w1.setCells g o i)
 |_,[],_,h=>h
 |_,_ :: r,o,h=>ta g e r (o+1) (bq h (ag e) _)
def iz(u v:B.V):Nat->B.V:=λi=>if i=0 then u else if i=1 then v else(0,0)
def Jg(w w':aa)(tb s0 c0 r0 m ck:Nat)(ao:Option Addr)(fs:List Value)(bk:Value)(u v:B.V)(Tk:Nat->Value):Prop:=
 ∃kb ck' fb rb,Full w' tb 160 7 7 (eE Tk 1<|.slice (some ⟨kb,0,none⟩) (m+1) ck')/\w'.ownsRow 0 184 1 (.slice (some ⟨kb,0,none⟩) (m+1) ck') (m+1) (fs++[P0 fb])/\Fr w' fb s0 c0 0 rb r0 bk (iz u v)/\w.heap.size<=fb/\w.heap.size<=rb/\dN (λk=>k=tb\/(Value.slice ao m ck).ownBlock=some k) w w'/\((Value.slice ao m ck).ownBlock=some kb\/w.heap.size<=kb)
theorem Lp(eb tb g nf y c0 r0 f m ck:Nat)(ao:Option Addr)(fs:List Value)(k:Fn)(ka kc:Array Value)(u v:B.V)(Tk:Nat->Value)(w:aa)(h0:w.cell? (az eb 0)=some (dD g nf nf))(Z:w.cell? (az g<|f*2)=some (ah r0))(h2:w.cell? (az g<|f*2+1)=some (dD y c0 c0))(hT:Full w tb 160 7 7 Tk)(b7:Tk 1=.slice ao m ck)(hK:w.ownsRow 0 184 1 (.slice ao m ck) m fs)(hm:m<=1000)(he:eb<w.heap.size)(hg:g<w.heap.size)(hf:f<nf)(hr:2<=r0)(c7:r0<=8):eN 119 #[P0 eb,P0 tb,ah f,vA u,vA v,.func k ka kc] w λw'=>Jg w w' tb y c0 r0 m ck ao fs (.func k ka kc) u v Tk:=by
 obtain⟨u1,u2⟩:=u;obtain⟨v1,v2⟩:=v;obtain⟨i0,hi,aV,aR,aZ⟩:=info_parts Tryz.uo;have c5:(f:Int)<(nf:Int):=af
 have bQ:=hT.lt;have HT:=bj hT;have aK:=bj b7;have HK:=bj hK;clear hT b7 hK;have bV:eb<w.heap.size+1:=af
 have bW:g<w.heap.size+1:=af
 delta eN;go_in;go_wp2_with (at_make;go_loud (refine wpList_make_full _ rfl _ _ 137 rfl 0 149 i0 _ 2 underlying137 hi aV aR _ _ _ _ r0 rfl rfl rfl rfl (lD aZ) pY (di _) ?_))
 intro w3 aH Y;have hz:=Y.size;simp at hz;have b4:=Da aH;have bD:(gG w #[ah (u1:Int),ah u2] 149).heap.size=w.heap.size+1:=eG
 have x0:=da Y (show(gG (gG (gG w #[ah (u1:Int),ah u2] 149) #[ah (v1:Int),ah v2] 149) #[ah (r0:Int),dD y c0 c0] 178).heap[w.heap.size]?=ny #[ah (u1:Int),ah u2] 149 by rw[au _ _ _ fV,au _ _ _ eG];exact bl _ _) je;have x1:=da Y (show(gG (gG (gG w #[ah (u1:Int),ah u2] 149) #[ah (v1:Int),ah v2] 149) #[ah (r0:Int),dD y c0 c0] 178).heap[w.heap.size+1]?=ny #[ah (v1:Int),ah v2] 149 by rw[au _ _ _ eG,<-bD];exact bl _ _) je;have x2:=da Y (show(gG (gG (gG w #[ah (u1:Int),ah u2] 149) #[ah (v1:Int),ah v2] 149) #[ah (r0:Int),dD y c0 c0] 178).heap[w.heap.size+1+1]?=ny #[ah (r0:Int),dD y c0 c0] 178 by(have:=bl (gG (gG w #[ah (u1:Int),ah u2] 149) #[ah (v1:Int),ah v2] 149)<|.cells #[ah (r0:Int),dD y c0 c0] 178;simpa using this)) je;have b6:Hid (iY w w3):=ar (by repeat (first|exact aw _ _|refine ax ?_ _)) Y;have H:Full w3 (w.heap.size+1+1+1) 149 (r0*2) (r0*2) (eR<|λ_=>(0,0)):=iE b4
 have aW:=bj H;have a0:w3.cell? (az w.heap.size 0)=some (ah (u1:Int)):=fj x0
 have a1:w3.cell? (az w.heap.size 1)=some (ah u2):=fj x0
 have b0:w3.cell? (az (w.heap.size+1) 0)=some (ah (v1:Int)):=fj x1
 have b1:w3.cell? (az (w.heap.size+1) 1)=some (ah v2):=fj x1
 obtain⟨k0,e0⟩:=H.cells 0 af;obtain⟨k1,e1⟩:=H.cells 1 af;obtain⟨k2,e2⟩:=H.cells 2 af;obtain⟨k3,e3⟩:=H.cells 3 af;rw[oi]at k0 k1 k2 k3
 have c2:(1:Int)<(r0:Int):=af
 have bB:=bj x2;clear aH Y b4 H x0 x1 x2 h0 Z h2 bD;go_wp2_with fail
 go_region
 generalize a8:World.drew (iA (iA (iA (iA w3 (w.heap.size+1+1+1) 0<|ah (u1:Int)) (w.heap.size+1+1+1) 1<|ah u2) (w.heap.size+1+1+1) 2<|ah (v1:Int)) (w.heap.size+1+1+1) 3<|ah v2)=i;have hb:∀b,b≠w.heap.size+1+1+1->i.heap[b]?=w3.heap[b]?:=by
  intro b hb;rw[<-a8];show(World.setCell _ _ _).heap[b]?=_;repeat (rw[ab _ _ _ _<|iE hb])
 have aA:Hid (Full i (w.heap.size+1+1+1) 149 (r0*2) (r0*2)<|eR<|iz (u1,u2) (v1,v2)):=by
  show Full _ _ _ _ _ _;rw[<-a8];refine Full.congr (show Full (World.drew _) _ _ _ _ _ from(((aW.out.eE 0<|ah (u1:Int)).eE 1<|ah u2).eE 2<|ah (v1:Int)).eE 3<|ah v2)<|λj _=>?_;by_cases j3:j<4
  .rcases(pS 3 j af) with rfl|rfl|rfl|rfl<;>rfl
  rw[eP _ _ _ _ af,eP _ _ _ _ af,eP _ _ _ _ af,eP _ _ _ _ af];have e:iz (u1,u2) (v1,v2) (j/2)=(0,0):=by unfold iz;rw[eK,eK]
  unfold eR;rw[e]
 have bG:i.heap.size=w3.heap.size:=by rw[<-a8];simp[World.setCell,World.drew]
 have aB:Hid (iY w i):=by
  rw[<-a8];repeat (first|exact b6.out|refine bo ?_|refine bu ?_ (ak fV) _)
 have aE:=bj<|HT.out.block<|aB.out.block tb bQ je;have aM:=bj<|dS HK.out<|λk h=>aB.out.block k (dR HK.out k h).2.1 je;have x2:=(hb (w.heap.size+1+1) af).trans bB.out;have f1:i.cell? (az (w.heap.size+1+1) 1)=some (dD y c0 c0):=fj x2
 obtain⟨t1,z1⟩:=aE.out.cells 1 af;rw[aK.out]at t1;have aU:=aE.out.lt
 clear bG a8 hb x2 bB aW b6 a0 a1 b0 b1 k0 k1 k2 k3 e0 e1 e2 e3 hi aV aR aZ i0;obtain⟨j0,hj,bT,b8,bJ⟩:=info_parts Tryz.FP;have kt:∀x,(Value.slice ao m ck).ownBlock=some x->x≠tb:=λx h=>eU HK.out HT.out eo x h;have aJ:(ck<m+1/\(ao=none->m=0/\ck=0))\/(m+1<=ck/\∃G,ao=some (az G 0)):=by
  rcases HK.out.2 with⟨h,h0⟩|⟨g',c',bO,Z,_,_,h4,_⟩
  .injection h with a1 a2 a3;exact ag ⟨af,λ_=>⟨a2,a3⟩⟩
  injection Z with a1 a2 a3;by_cases bN:m+1<=ck
  .exact ak ⟨bN,g',a1⟩
  exact ag ⟨af,λe=>by rw[a1]at e;cases e⟩
 have hW:∀x,x<i.heap.size->((gG (i.alloc<|jG y c0 0 (w.heap.size+1+1+1) r0<|.func k ka kc) #[P0 i.heap.size] 184).drew).heap[x]?=i.heap[x]?:=λx hx=>(au _ _ _ fV).trans<|au _ _ _ hx;have aG:((gG (i.alloc<|jG y c0 0 (w.heap.size+1+1+1) r0<|.func k ka kc) #[P0 i.heap.size] 184).drew).heap.size=i.heap.size+2:=by show(World.alloc _ _).heap.size=_;simp
 have aC:((gG (i.alloc<|jG y c0 0 (w.heap.size+1+1+1) r0<|.func k ka kc) #[P0 i.heap.size] 184).drew).heap[i.heap.size]?=some (jG y c0 0 (w.heap.size+1+1+1) r0<|.func k ka kc):=by show(World.alloc _ _).heap[_]?=_;rw[au _ _ _ eG];exact bl _ _
 have aP:((gG (i.alloc<|jG y c0 0 (w.heap.size+1+1+1) r0<|.func k ka kc) #[P0 i.heap.size] 184).drew).cell? (az (i.heap.size+1) 0)=some (P0 i.heap.size):=by
  have Z:=bl (i.alloc<|jG y c0 0 (w.heap.size+1+1+1) r0<|.func k ka kc)<|.cells #[P0 i.heap.size] 184;have h2:(i.alloc<|jG y c0 0 (w.heap.size+1+1+1) r0<|.func k ka kc).heap.size=i.heap.size+1:=eG
  rw[h2]at Z;have h3:((gG (i.alloc<|jG y c0 0 (w.heap.size+1+1+1) r0<|.func k ka kc) #[P0 i.heap.size] 184).drew).heap[i.heap.size+1]?=ny #[P0 i.heap.size] 184:=Z;simp only[World.cell?,h3];rfl
 have aF:∀j u,[P0 i.heap.size][j]?=some u->((gG (i.alloc<|jG y c0 0 (w.heap.size+1+1+1) r0<|.func k ka kc) #[P0 i.heap.size] 184).drew).cell? (((az (i.heap.size+1) 0):Addr).add j)=some u:=λj u hj=>by
  match j,hj with
  |0,hj=>(simp at hj;subst hj;exact aP)
 have aD:iY i ((gG (i.alloc<|jG y c0 0 (w.heap.size+1+1+1) r0<|.func k ka kc) #[P0 i.heap.size] 184).drew):=bo<|ax (ax (aw _ _) _) _;rcases aJ with⟨b2,a9⟩|⟨a5,G,rfl⟩
 .have aY:=HK.out.1;have a6:∀b,ao=some b->∀j u,fs[j]?=some u->((gG (i.alloc<|jG y c0 0 (w.heap.size+1+1+1) r0<|.func k ka kc) #[P0 i.heap.size] 184).drew).cell? (b.add j)=some u:=λb hb j u hu=>by
   subst hb;rcases aM.out.2 with⟨h,_⟩|⟨g',c',bO,Z,_⟩
   .cases h
   injection Z with Z _ _;injection Z with Z;subst Z;obtain⟨_,_,_,_,hB,hc⟩:=ik aM.out;have h2:=hc j u hu;have h3:((gG (i.alloc<|jG y c0 0 (w.heap.size+1+1+1) r0<|.func k ka kc) #[P0 i.heap.size] 184).drew).cell? (az g' j)=some u:=by
    simp only[World.cell?]at h2⊢;rw[hW g' hB.lt];exact h2
   cases j with
   |zero=>simpa[Addr.add] using h3
   |succ j=>simpa[Addr.add] using h3
  have aI:=bj<|bh a9<|bh aY a6;have o:=bj<|bh aG<|bh aC<|bh aF aD;clear a9 aY a6 hW aG aC aP aF aD;go_wp2_with fail
  go_region_law (refine step_append_grows rfl (.tmp 34) (.tmp 41) 156 rfl 184 j0 (.pointer none) 1 8 underlying156 hj bT b8 bJ rfl eo ao m ck fs mS aI.out.1 aI.out.2.1 aI.out.2.2 (az (i.heap.size+1) 0) 1 1 [P0 i.heap.size] mS rfl o.out.2.2.1 yv b2 pY af ?_;intro v' w6 ho hg;obtain⟨G,bE,rfl⟩:=ef ho af;have c3:=o.out.1▸(ik ho).1;have aO:=bj<|ar o.out.2.2.2 hg;have bM:Hid (w6.heap[i.heap.size]?=some (jG y c0 0 (w.heap.size+1+1+1) r0<|.func k ka kc)):=da hg o.out.2.1 je;have b5:=bj<|ib ho<|di _;have J:=bj<|aE.out.block<|aO.out.block tb aU je;obtain⟨d1,bL⟩:=J.out.cells 1 af;have bH:=J.out.lt;clear ho hg)
  all_goals
   go_wp2_with fail
   go_end0;have aL:w.heap.size+1+1+1≠tb:=af
   have b9:=aA.out.lt;refine⟨rfl,G,bE,i.heap.size,w.heap.size+1+1+1,J.out.eE 1 _,dS b5.out<|λx h=>ab _ _ _ _<|eU b5.out J.out eo x h,⟨(ab _ _ _ _ (show i.heap.size≠tb by omega)).trans bM.out,(aA.out.block<|aO.out.block _ aA.out.lt je).off aL,af⟩,af,af,bq (eA<|ar aB.out aO.out) (ag<|ag rfl) _,ak af⟩
 obtain⟨_,bZ,bC,aS,a7,b3⟩:=ik aM.out;have aT:∀j,j < [P0 i.heap.size].length->(((gG (i.alloc<|jG y c0 0 (w.heap.size+1+1+1) r0<|.func k ka kc) #[P0 i.heap.size] 184).drew).cell?<|az G<|0+m*1+j).isSome=true/\((gG (i.alloc<|jG y c0 0 (w.heap.size+1+1+1) r0<|.func k ka kc) #[P0 i.heap.size] 184).drew).frozen? (az G<|0+m*1+j)=false:=λj hj=>by
  have bR:j=0:=iE hj
  subst bR;obtain⟨⟨v,h⟩,hf⟩:=a7.cell (0+m*1+0) af;have hk:=hW G a7.lt;constructor
  .simp only[World.cell?]at h⊢;rw[hk,h];rfl
  simp only[World.frozen?]at hf⊢;rw[hk];exact hf
 have o:=bj<|bh aG<|bh aC<|bh aF<|bh aD<|bh aT hW;have W:=bj<|bh bC<|bh aS<|bh a7 b3;have bK:G≠tb:=kt G rfl;have aQ:=a7.lt;clear hW aG aC aP aF aD aT bC aS a7 b3;go_wp2_with fail
 go_region_law (refine step_append_room rfl (.tmp 34) (.tmp 41) 156 rfl 184 j0 1 underlying156 hj b8 G 0 m ck mS (az (i.heap.size+1) 0) 1 1 [P0 i.heap.size] mS rfl o.out.2.2.1 yv a5 o.out.2.2.2.2.1 ?_;generalize aX:World.setCells _ G _ _=w6;have a4:Hid (w6=((gG (i.alloc<|jG y c0 0 (w.heap.size+1+1+1) r0<|.func k ka kc) #[P0 i.heap.size] 184).drew).setCells G (0+m*1) [P0 i.heap.size]):=aX.symm;clear aX;have aN:Hid (∀x,x≠G->w6.heap[x]?=((gG (i.alloc<|jG y c0 0 (w.heap.size+1+1+1) r0<|.func k ka kc) #[P0 i.heap.size] 184).drew).heap[x]?):=(λx hx=>by rw[a4.out];exact fM G x hx _ _ _);have J:=bj<|aE.out.block<|(aN.out tb<|λe=>bK e.symm).trans<|o.out.2.2.2.2.2 tb aU;obtain⟨d1,bL⟩:=J.out.cells 1 af;have bH:=J.out.lt)
 all_goals
  rw[aK.out]at d1;go_wp2_with fail
  go_end0;have aL:w.heap.size+1+1+1≠tb:=af
  have b9:=aA.out.lt;have bI:w.heap.size+1+1+1≠G:=by
   have:=(dR HK.out G rfl).2.1;omega
  have c4:w6.heap.size=i.heap.size+2:=by rw[a4.out,nR];exact o.out.1
  have bA:w6.ownsRow 0 184 1 (dD G (m+1) ck) (m+1) (fs++[P0 i.heap.size]):=by
   refine nT (di _) a5 W.out.1 (by simp[W.out.2.1]) ?_<|λj x hx=>?_
   .rw[a4.out];refine jQ.xD G _ _ _ ?_;obtain⟨cu,q1,q2⟩:=W.out.2.2.1;exact⟨cu,(o.out.2.2.2.2.2 G aQ).trans q1,q2⟩
   rw[a4.out];by_cases hj:j<m
   .rw[World.cell?_setCells_out G _ _ _ _<|λ_ _=>ag (by show j<0+m*1;omega)];rw[fq<|eZ W.out.2.1 hj]at hx;have h2:=W.out.2.2.2 j x hx;simp only[World.cell?]at h2⊢;rw[o.out.2.2.2.2.2 G aQ];exact h2
   have bP:j=m:=by
    have:=(cf.1 hx).1;simp[W.out.2.1]at this;omega
   subst bP;rw[iF (by rw[W.out.2.1];exact bm _),W.out.2.1,Nat.sub_self]at hx;have:=World.cell?_setCells_in G [P0 i.heap.size] (0+j*1) ((gG (i.alloc<|jG y c0 0 (w.heap.size+1+1+1) r0<|.func k ka kc) #[P0 i.heap.size] 184).drew) (λt ht=>(o.out.2.2.2.2.1 t ht).1) 0 eG;rw[show(0+j*1+0)=j by omega]at this;rw[this];exact hx
  have bF:dN (λx=>x=tb\/(Value.slice (some<|az G 0) m ck).ownBlock=some x) w w6:=by
   rw[a4.out];exact ta G (ak rfl) _ _<|eA<|ar aB.out o.out.2.2.2.1
  have bS:w6.heap[i.heap.size]?=some (jG y c0 0 (w.heap.size+1+1+1) r0<|.func k ka kc):=(aN.out _ af).trans o.out.2.1;refine⟨rfl,G,ck,i.heap.size,w.heap.size+1+1+1,J.out.eE 1 _,dS bA<|λx h=>ab _ _ _ _<|eU bA J.out eo x h,⟨(ab _ _ _ _ (show i.heap.size≠tb by omega)).trans bS,(aA.out.block<|(aN.out _ bI).trans<|o.out.2.2.2.2.2 _ b9).off aL,af⟩,af,af,bq bF (ag<|ag rfl) _,ag rfl⟩
theorem Nx(g c n i J:Nat)(xs:List Value)(w:aa)(a0:w.ownsRow J 5 1 (.slice (some ⟨g,0,none⟩) n c) n xs)(aI:i<n)(h1:∀x,x∈xs->x.oneCell'=true)(aF:n<=1000000000):Calls prog 208 #[.slice (some ⟨g,0,none⟩) n c,.int .i64 (i:Int),.int .i64<|(i:Int)+1] w λe w'=>e=.returned (.slice (some ⟨g,0,none⟩) (n-1) c)/\w'.ownsRow J 5 1 (.slice (some ⟨g,0,none⟩) (n-1) c) (n-1) (xs.eraseIdx i)/\w.grownBy w' (some g):=by
 let⟨hb,hc,hm,hl,hB,y⟩:=ik a0;clear a0;let⟨i0,hi,a6,a4,a9⟩:=info_parts Tryz.Jx;have hv:∀w,(zeroValue 5).run prog w=.ok (.int .u8 0) w:=by intro w;simp[zeroValue,typeInfo,hi,a6]
 have W:∀(ty:TypeId) (w1:aa) (G:Nat),jQ w1 g 5 c->(Builtin.clear_ #[86] ty #[.slice (some ⟨g,n-1,none⟩) 1 G]).run prog w1=.ok (.tuple #[]) (iA w1 g (n-1)<|.int .u8 0):=by
  intro ty w1 G a2;refine Go.Lib.run_clear_slice (P:=prog) w1 86 5 ty (.int .u8 0) Tryz.underlying86 hv rfl rfl g (n-1) 1 G af ?_ ?_
  .intro j Z;let⟨⟨v,h⟩,_⟩:=a2.cell (n-1+j) af;rw[h];rfl
  intro j Z;exact(a2.cell (n-1+j) af).2
 have aG:i<=c:=af
 have aA:(0:Int)<=(i:Int)+1:=af
 have a8:i+1<=c:=af
 have aC:(n:Int)<=(c:Int):=af
 have aE:(i:Int)+1<=(n:Int):=af
 have aH:(c:Int)<=9223372036854775807:=by unfold maxLen at hm;omega
 have HB:=bj hB;have HX:=bj y;have H1:=bj h1;have H:=bj hl;have Y:=bj W;have HM:=bj hm;clear hB y h1 hl W hm;by_cases o:i+1=n
 .obtain rfl:n=i+1:=o.symm;have cl:∀(ty:TypeId) (G:Nat),(Builtin.clear_ #[86] ty #[.slice (some ⟨g,i,none⟩) 1 G]).run prog w.drew=.ok (.tuple #[]) (iA w.drew g i<|.int .u8 0):=λty G=>Y ty w.drew G HB;clear o;go_in;go_wp2_with fail
  go_region_law (refine lQ rfl (.tmp 22) (.tmp 25) 86 rfl 5 i0 Tryz.underlying86 hi (some ⟨g,0,none⟩) (if c=i+1 then some ⟨g,0,none⟩ else some ⟨g,i+1,none⟩) i c (c-(i+1)) mS mS af ?_)
  all_goals
   go_wp2_with fail
   all_goals
    go_ret;refine⟨rfl,nT hb af (gD HM.out) (by rw[List.length_eraseIdx,bf<|lD H.out,H];omega) (by let⟨cu,k1,k2⟩:=HB.set g i<|.int .u8 0;exact⟨cu,k1,af⟩)<|λj x y=>?_,?_⟩
    .have Z:j<i:=by
      have:=(cf.1 y).1;rw[List.length_eraseIdx,bf<|lD H.out,H]at this;omega
     rw[List.getElem?_eraseIdx_of_lt Z]at y;have:=HX j x y;have h2:(World.setCell w ⟨g,i,none⟩<|.int .u8 0).cell? ⟨g,j,none⟩=some x:=by
      rw[dK _ _ _ _ Cm];exact this
     exact h2
    repeat (first|exact aw _ _|refine bo ?_|refine bu ?_ (ag rfl) _)
 obtain⟨m,a7⟩:∃m,n=i+1+m:=⟨n-(i+1),af⟩;have aD:1<=m:=af
 subst a7;have aB:¬c=i+1:=af
 have r1:(xs.drop<|i+1).length=m*1:=by rw[List.length_drop,H.out,Nat.mul_one];omega
 have r2:∀j u,(xs.drop<|i+1)[j]?=some u->w.drew.cell? ((⟨g,i+1,none⟩:Addr).add j)=some u:=λj u hu=>by
  rw[List.getElem?_drop]at hu;have:=HX (i+1+j) u hu
  cases j with
  |zero=>simpa[Addr.add] using this
  |succ j=>simpa[Addr.add] using this
 have r3:∀u,u∈xs.drop (i+1)->u.oneCell'=true:=λu hu=>H1 u<|List.mem_of_mem_drop hu;have r5:∀j,j<(xs.drop<|i+1).length->(w.drew.cell? ⟨g,0+i*1+j,none⟩).isSome=true/\w.drew.frozen? ⟨g,0+i*1+j,none⟩=false:=λj Z=>by
  rw[r1]at Z;let⟨⟨v,h⟩,hf⟩:=HB.cell (0+i*1+j) af;have h':w.drew.cell? ⟨g,0+i*1+j,none⟩=some v:=h;exact⟨kh h',hf⟩
 have HR:=bj<|bh r1<|bh r2<|bh r3 r5;have e1:i+1+m-(i+1)=m:=af
 have e2:i+1+m-(i+m)=1:=af
 have e3:i+m<=c:=af
 have e6:(i:Int)+1<=(i:Int)+1+(m:Int):=af
 have BS:jQ (w.drew.setCells g i<|xs.drop<|i+1) g 5 c:=jQ.xD g _ _ _ (show jQ w.drew g 5 c from HB);have cl:=λty G=>by
  have:=Y ty _ G BS;rw[show i+1+m-1=i+m by omega]at this;exact this
 have a5:=bj BS;clear r1 r2 r3 r5 o BS;go_in;go_wp2_with fail
 go_region_law (refine step_append_room rfl (.tmp 22) (.tmp 25) 86 rfl 5 i0 1 Tryz.underlying86 hi a4 g 0 i c mS ⟨g,i+1,none⟩ m (c-(i+1)) (xs.drop<|i+1) mS HR.1 HR.2.1 HR.2.2.1 af HR.2.2.2 ?_)
 all_goals
  go_wp2_with fail
  go_ret;rw[show i+1+m-1=i+m by omega];have a1:∀j,j<(xs.drop<|i+1).length->(w.drew.cell? ⟨g,i+j,none⟩).isSome=true:=λj Z=>by
   have:=(HR.2.2.2 j Z).1;simpa using this
  refine⟨rfl,nT hb af HM (by rw[List.length_eraseIdx,bf<|lD H.out,H];omega) (by let⟨cu,k1,k2⟩:=a5.set g (i+m)<|.int .u8 0;exact⟨cu,k1,k2⟩)<|λj x y=>?_,?_⟩
  .have Z:j<i+m:=by
    have:=(cf.1 y).1;rw[List.length_eraseIdx,bf<|lD H.out,H]at this;omega
   have h2:(iA (w.drew.setCells g i<|xs.drop<|i+1) g (i+m)<|.int .u8 0).cell? ⟨g,j,none⟩=some x:=by
    rw[dK _ _ _ _ Cm];by_cases a3:j<i
    .rw[World.cell?_setCells_out g _ _ _ _<|λ_ _=>ag a3];rw[List.getElem?_eraseIdx_of_lt a3]at y;exact HX j x y
    obtain⟨t,rfl⟩:∃t,j=i+t:=⟨j-i,af⟩;rw[List.getElem?_eraseIdx_of_ge af]at y;have hd:(xs.drop<|i+1)[t]?=some x:=by rw[List.getElem?_drop,<-y];congr 1;omega
    have ht:=(cf.1 hd).1;rw[World.cell?_setCells_in g _ _ _ a1 t ht];let⟨_,hv⟩:=cf.1 hd;rw[hv]
   exact h2
  repeat (first|exact aw _ _|refine bo ?_|refine bu ?_ (ag rfl) _|refine na g ?_ _ _)
def iR(bs:List Nat):List Value:=bs.map<|λ(x:Nat)=>Value.int .u8 (x:Int)
theorem CB(eb o c:Nat)(ad:Option Addr)(w:aa)(h:w.cell? (az eb o)=some (.slice ad 0 c)):dC 174 #[Pt eb o] w (.tuple #[dz 0,.bool false]) λw'=>w'=w:=by
 delta dC;go_in;go_wp2
 go_ret2
 simp_all
theorem CA(eb o g c N x:Nat)(T:TypeId)(bs:List Nat)(E:Nat->Value)(w:aa)(J:Full w eb T N N E)(ho:o<N)(he:E o=dD g (bs.length+1) c)(i:w.ownsRow 0 5 1 (dD g (bs.length+1) c) (bs.length+1) (iR<|x :: bs))(hn:bs.length<=1000)(Z:g≠eb):dC 174 #[Pt eb o] w (.tuple #[dz x,.bool true]) λw'=>Full w' eb T N N (eE E o<|dD g bs.length c)/\w'.ownsRow 0 5 1 (dD g bs.length c) bs.length (iR bs)/\dN (λk=>k=eb\/k=g) w w':=by
 let⟨c0,z0⟩:=J.cells o ho;rw[he]at c0;have q0:dW w g 0=some (dz x):=(ik i).2.2.2.2.2 0 _ rfl;have HD:Hid (dC 208 #[dD g (bs.length+1) c,ah 0,ah 1] w (dD g bs.length c) λw'=>w'.ownsRow 0 5 1 (dD g bs.length c) bs.length (iR bs)/\w.grownBy w' (some g)):=by
  have:=Nx g c (bs.length+1) 0 0 (iR<|x :: bs) w i af (λy hy=>by obtain⟨z,_,rfl⟩:=eX.1 hy;rfl) af;refine bj ?_;simpa[iR] using this
 have HE:=bj J;generalize bs.length=n at*;delta dC;go_in;go_wp2_with fail
 refine dq HD ?_;rintro w1 ⟨H,u⟩;have G:=bj<|HE.kept u<|λe=>Z e.symm;let⟨d0,e0⟩:=G.cells o ho;have Y:=bj H;have W:=bj u;go_wp2
 go_ret2
 refine⟨rfl,G.eE o _,dS Y<|λk h=>?_,bq (jL W<|ak rfl) (ag<|ag rfl) _⟩;have hk:k=g:=by injection h with h;exact h.symm
 grind[Below.heap_setCell]
end
section
open Go.Lib
theorem Hi:∀w:aa,(sizeOf 155).run prog w=.ok 1 w:=by
 simp_all
theorem CD(b n c i vb:Nat)(G:List Value)(y:Value)(w:aa)(hi:i<n)(aK:n+1<=c)(aL:c<=9223372036854775807)(a4:vb≠b)(aJ:G.length=n)(a6:∀j v,G[j]?=some v->w.cell? (az b j)=some v)(Y:∀j,j<n+1->(w.cell?<|az b j).isSome=true)(a3:∀j,j<n+1->w.frozen? (az b j)=false)(aC:w.cell? (az vb 0)=some y)(a8:∀v∈G,v.oneCell'=true)(aB:y.oneCell'=true)(tA tB:TypeId)(kA kB:Nat)(aG:w.shape? vb=some (tA,kA))(aD:w.shape? b=some (tB,kB))(aI:kB≠0)(a7:w.frozen? (az vb 0)=false)(aH:w.frozen? (az vb kA)=false):Calls prog 203 #[dD b n c,ah i,dD vb 1 1] w λe w'=>e=.returned (dD b (n+1) c)/\w'=(w.drew.setCells b (i+1)<|G.drop i).setCells b i [y]:=by
 have a5:(prog.info? 155).map (·.size)=some 1:=by
  obtain⟨i0,aA,h0,h1,h2⟩:=info_parts Tryz.qu;rw[aA];simp[h1]
 have aE:∀lb cb,(callFunc 222 #[dD vb 1 1,.slice (some<|az b<|i+1) lb cb]).run prog w=.ok (.value<|.bool false) w:=λlb cb=>by
  rw[run_callFunc_extern func222 eW eW eW (e:=Extern.SlicesOverlaps.overlaps #[136,136] #[4]) eW,
   Lib.run_overlaps_apart w 136 4 155 underlying136 1 Hi (az vb 0) (az b<|i+1) 1 1 lb cb a4 tA tB kA kB aG aD aI a7 aH]
  rfl
 have aF:(G.drop i).length=n-i:=by rw[List.length_drop,aJ]
 have aP:IntKind.i64.wrap ((i:Int)+1)=(i:Int)+1:=lD IntKind.wrap_i64
 have aQ:wrap64 ((i:Int)+1)=(i:Int)+1:=dL _ ⟨af,af⟩;have aR:(0:Int)<=i+1:=af
 have aT:i<=n:=af
 have aN:((i:Int)+1).toNat=i+1:=af
 have aU:¬(c=i+1):=af
 have aO:(i:Int)<=n+1:=af
 have aS:¬(c=i):=af
 have H:∀ty J sc,(Builtin.copy_ #[136,136] ty #[.slice (some<|az b<|i+1) (n-i) J,.slice (some<|az b i) (n+1-i) sc]).run prog w.drew=.ok (goInt (G.drop i).length) (w.drew.setCells b (i+1)<|G.drop i):=λty J sc=>
  run_copy_cells w.drew _ _ ty 155 b (i+1) (n-i) J (az b i) (n+1-i) sc (G.drop i) underlying136 a5 ey
   (λj v o=>by rw[Addr.add_lit];simp_all)
   (λj o=>Y _ af) (λj o=>a3 _ af) (λv hv=>a8 v<|List.mem_of_mem_drop hv)
 obtain⟨Z,u⟩:∃Z,Z=w.drew.setCells b (i+1) (G.drop i):=⟨_,rfl⟩;have a1:∀k,k<n+1->(dW Z b k).isSome=true:=λk hk=>by
  rw[u];exact isSome_setCells b (G.drop i) (i+1) w.drew (λj o=>Y (i+1+j) af) k<|Y k hk
 have a0:∀(W:aa),(∀x,W.cell? x=Z.cell? x)->(∀x,W.frozen? x=Z.frozen? x)->∀ty J,(Builtin.copy_ #[136,136] ty #[.slice (some<|az b i) (n+1-i) J,dD vb 1 1]).run prog W=.ok (goInt [y].length) (W.setCells b i [y]):=λW a2 a9 ty J=>
  run_copy_cells W _ _ ty 155 b i (n+1-i) J (az vb 0) 1 1 [y] underlying136 a5 ey
   (λj v o=>by
    rw[Addr.add_lit,a2,u,World.cell?_setCells_out b _ _ _ _<|λh _=>dr h a4];match j,o with
    |0,o=>simp_all)
   (λj o=>by grind) (λj o=>by rw[a9,u,World.frozen?_setCells];simp at o;exact a3 _ af) (λv hv=>by grind)
 rw[<-u]at H;go_in;go_wp2_with (simp only[aE])
 go_region_law (refine step_copy_runI rfl _ _ 136 136 rfl _ _ (by simp[Act.eval,Act.put]) (by simp[Act.eval,Act.put]) (H _ _ _) ?_)
 go_wp2_with (at_builtin;refine wpList_copy_runI _ rfl _ _ 136 136 rfl _ _ rfl rfl (a0 _ (λ_=>rfl) (λ_=>rfl) _ _) ?_)
 go_ret;first|exact⟨rfl,rfl⟩|exact⟨rfl,by rw[u]⟩
theorem CE(b n c i vb:Nat)(cs:List Value)(y:Value)(w:aa)(hi:i<n)(hnc:n<=c)(hroom:c<n+1)(hbig:n<=1000000000)(hcl:cs.length=n)(hcs:∀j v,cs[j]?=some v->w.cell? (az b j)=some v)(hvs:w.cell? (az vb 0)=some y)(h1c:∀v∈cs,v.oneCell'=true)(h1v:y.oneCell'=true):Calls prog 203 #[dD b n c,ah i,dD vb 1 1] w λe w'=>e=.returned (dD w.heap.size (n+1)<|grownCap w (n+1) c 155)/\w'=(((w.alloc<|.cells ((cs.take i).toArray++Builtin.zeroCells (Value.pointer none).cells (n+1-i)++Builtin.zeroCells (Value.pointer none).cells (grownCap w (n+1) c 155-(n+1))) 155).drew.setCells w.heap.size i [y]).drew).setCells w.heap.size (i+1) (cs.drop i):=by
 obtain⟨i0,hi0,hz0,hzs,hzb⟩:=info_parts Tryz.qu
 have hz3:(c:Int)<n+1:=af
 have hw1:IntKind.i64.wrap ((i:Int)+1)=(i:Int)+1:=lD IntKind.wrap_i64
 have hw2:wrap64 ((i:Int)+1)=(i:Int)+1:=dL _ ⟨af,af⟩
 have hw3:wrap64 ((n:Int)+1)=(n:Int)+1:=dL _ ⟨af,af⟩
 have hw4:wrap64 ((n:Int)+1-(i:Int))=(n:Int)+1-(i:Int):=dL _ ⟨af,af⟩
 have hb1:(0:Int)<=i+1:=af
 have htn:((i:Int)+1).toNat=i+1:=af
 have hb3:(i:Int)<=n:=af
 have hsz:(prog.info? 155).map (·.size)=some 1:=by rw[hi0];simp[hzs]
 have hbw:b<w.heap.size:=block_lt_of_cell<|hcs 0 _<|bw af
 have hkk:(n:Int)+1-(i:Int)=((n+1-i:Nat):Int):=af
 have hik:i+(n+1-i)=n+1:=af
 have hold:(Builtin.firstCells i0.size i<|dD b i c).run prog w.drew=.ok (cs.take i).toArray w.drew:=by
  rw[hzs]
  exact run_firstCells_some w.drew 1 i (az b 0) i c (cs.take i) ey (λj v hj=>by
   rw[Addr.add_lit]
   rw[dP]at hj
   simp_all)
 have hrz:∀ty,(Builtin.append_ #[136,3] ty #[dD b i c,ah<|(n:Int)+1-(i:Int)]).run prog w =
   .ok (dD w.heap.size (n+1)<|grownCap w (n+1) c 155) (w.drew.alloc<|.cells ((cs.take i).toArray++Builtin.zeroCells (Value.pointer none).cells (n+1-i)++Builtin.zeroCells (Value.pointer none).cells (grownCap w (n+1) c 155-(n+1))) 155):=λty=>by
  have h:=Lib.run_append_grow_zeros w 136 3 ty 155 i0 _ .i64 .i64 underlying136 underlying3 hi0 hz0 (some<|az b 0) i c (cs.take i) hold (n+1-i) af af af af ey (by rw[hzb,hik];exact growslice_fits hroom af)
  grind
 obtain⟨G,hG⟩:∃G,G=grownCap w (n+1) c 155:=⟨_,rfl⟩
 obtain⟨ROW,hROW⟩:∃ROW:Array Value,ROW=(cs.take i).toArray++Builtin.zeroCells (Value.pointer none).cells (n+1-i)++Builtin.zeroCells (Value.pointer none).cells (G-(n+1)):=⟨_,rfl⟩
 rw[<-hG]at hrz⊢
 rw[<-hROW]at hrz⊢
 have hRl:n+1<=ROW.size:=by
  rw[hROW]
  simp[Builtin.zeroCells,Value.cells]
  omega
 obtain⟨W1,hW1⟩:∃W1,W1=w.drew.alloc (.cells ROW 155):=⟨_,rfl⟩
 rw[<-hW1]at hrz
 have hN:∀j,j<n+1->(W1.cell?<|az w.heap.size j).isSome=true:=λj hj=>by
  rw[hW1,World.cell?_alloc_at (w:=w.drew) ROW _ w.heap.size j rfl,Array.getElem?_eq_getElem af];rfl
 have hNf:∀j,W1.frozen? (az w.heap.size j)=false:=λj=>by rw[hW1];exact World.frozen?_alloc_at (w:=w.drew) ROW _ w.heap.size j rfl
 have hOb:∀j v,w.cell? (az b j)=some v->W1.cell? (az b j)=some v:=λj v h=>by rw[hW1,World.cell?_alloc_past (w:=w.drew) _ b j hbw];exact h
 have hOv:∀j v,w.cell? (az vb j)=some v->W1.cell? (az vb j)=some v:=λj v h=>by rw[hW1,World.cell?_alloc_past (w:=w.drew) _ vb j<|block_lt_of_cell hvs];exact h
 have hcpA:∀(W:aa),(∀x,W.cell? x=W1.cell? x)->(∀x,W.frozen? x=W1.frozen? x)->∀ty dc,(Builtin.copy_ #[136,136] ty #[.slice (some<|az w.heap.size i) (n+1-i) dc,dD vb 1 1]).run prog W=.ok (goInt [y].length) (W.setCells w.heap.size i [y]):=λW hWc hWf ty dc=>
  run_copy_cells W _ _ ty 155 w.heap.size i (n+1-i) dc (az vb 0) 1 1 [y] underlying136 hsz (by simp only[Nat.min_def,fh];split<;>omega)
   (λj v hj=>by
    match j,hj with
    |0,hj=>simp at hj;subst hj;rw[Addr.add_lit,hWc];exact hOv _ _ hvs)
   (λj hj=>by rw[hWc];simp at hj;exact hN _ af) (λj hj=>by rw[hWf];exact hNf _) (λv hv=>by simp at hv;subst hv;exact h1v)
 have hGn:n+1<=G:=by rw[hG];exact grownCap_ge w _ _ _
 have hGi:¬(G=i):=af
 have hGim:¬(G=i+1):=af
 have hci:¬(c=i):=af
 have hbN:b≠w.heap.size:=af
 have hdl:(cs.drop i).length=n-i:=by rw[List.length_drop,hcl]
 have hcpB:∀(W:aa),(∀x,W.cell? x=(W1.setCells w.heap.size i [y]).cell? x)->(∀x,W.frozen? x=(W1.setCells w.heap.size i [y]).frozen? x)->∀ty dc sc,(Builtin.copy_ #[136,136] ty #[.slice (some<|az w.heap.size<|i+1) (n-i) dc,.slice (some<|az b i) (n-i) sc]).run prog W=.ok (goInt (cs.drop i).length) (W.setCells w.heap.size (i+1)<|cs.drop i):=λW hWc hWf ty dc sc=>
  run_copy_cells W _ _ ty 155 w.heap.size (i+1) (n-i) dc (az b i) (n-i) sc (cs.drop i) underlying136 hsz (by rw[hdl];show n-i=min _ _;omega)
   (λj v hj=>by
    rw[Addr.add_lit,hWc,World.cell?_setCells_out _ _ _ _ _<|λh _=>dr h hbN]
    exact hOb _ v<|hcs (i+j) v<|by rwa [List.getElem?_drop]at hj)
   (λj hj=>by rw[hWc];exact isSome_setCells w.heap.size [y] i W1 (λt ht=>by simp at ht;exact hN _ af) _<|hN _ af)
   (λj hj=>by rw[hWf,World.frozen?_setCells];exact hNf _) (λv hv=>h1c v<|List.mem_of_mem_drop hv)
 subst hW1
 have hE1:∀x,((w.alloc<|.cells ROW 155).drew).cell? x=(w.drew.alloc<|.cells ROW 155).cell? x:=λx=>rfl
 have hE2:∀x,((w.alloc<|.cells ROW 155).drew).frozen? x=(w.drew.alloc<|.cells ROW 155).frozen? x:=λx=>rfl
 have hF1:∀x,(((w.alloc<|.cells ROW 155).drew.setCells w.heap.size i [y]).drew).cell? x=((w.drew.alloc<|.cells ROW 155).setCells w.heap.size i [y]).cell? x:=λx=>rfl
 have hF2:∀x,(((w.alloc<|.cells ROW 155).drew.setCells w.heap.size i [y]).drew).frozen? x=((w.drew.alloc<|.cells ROW 155).setCells w.heap.size i [y]).frozen? x:=λx=>rfl
 clear hkk hik hold hROW hG hRl
 go_in
 go_wp2_with (first
  |(at_builtin;refine Lib.wpList_append_run _ rfl _ _ _ _ rfl _ _ rfl rfl _ _ (hrz _) ?_)
  |(at_builtin;refine wpList_copy_runI _ rfl _ _ 136 136 rfl _ _ rfl rfl (hcpA _ hE1 hE2 _ _) ?_)
  |(at_builtin;refine wpList_copy_runI _ rfl _ _ 136 136 rfl _ _ rfl rfl (hcpB _ (λ_=>rfl) (λ_=>rfl) _ _ _) ?_))
 go_region_law (refine step_copy_runI rfl _ _ 136 136 rfl (.slice (some<|az w.heap.size<|i+1) (n-i)<|G-(i+1)) (.slice (some<|az b i) (n-i)<|c-i) (by simp[Act.eval,Act.put]) (by simp[Act.eval,Act.put]) (hcpB _ hF1 hF2 155 (G-(i+1))<|c-i) ?_)
 go_wp2
 go_ret
 exact⟨rfl,rfl⟩
