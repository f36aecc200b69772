import Derived.Test.YtnjiinbhbjpfkaaGreatDoorKF
import Derived.Test.YtnjiinbhbjpfkaaGreatDoorKH
import Derived.Test.YtnjiinbhbjpfkaaGreatDoorKE
set_option maxRecDepth 100000
set_option maxHeartbeats 0
set_option linter.all false
namespace Go.Proofs.YtnjiinbhbjpfkaaGreatDoor
open Go.RowKit Go.Proofs.Tryz
section
theorem qh{S:Nat->Prop}{w:World}(g:Nat)(e:S g):∀{w1:World} (i:List Value) (o:Nat),dy S w w1->dy S w (w1.setCells g o i)
 | _,[],_,h=>h
 | _,_ :: r,o,h=>qh g e r (o+1) (bm h (ag e) _)
def gh(u v:B.V):Nat->B.V:=λi=>if i=0 then u else if i=1 then v else(0,0)
def FO(w w':World)(tb s0 c0 r0 m ck:Nat)(ao:Option Addr)(fs:List Value)(bk:Value)(u v:B.V)(Tk:Nat->Value):Prop:=
 ∃kb ck' fb rb,Full w' tb 160 7 7 (ep Tk 1 (.slice (some ⟨kb,0,none⟩) (m+1) ck'))/\w'.ownsRow 0 184 1 (.slice (some ⟨kb,0,none⟩) (m+1) ck') (m+1) (fs++[P0 fb])/\Fr w' fb s0 c0 0 rb r0 bk (gh u v)/\w.heap.size<=fb/\w.heap.size<=rb/\dy (λk=>k=tb\/(Value.slice ao m ck).ownBlock=some k) w w'/\((Value.slice ao m ck).ownBlock=some kb\/w.heap.size<=kb)
theorem Hy(eb tb g nf y c0 r0 f m ck:Nat)(ao:Option Addr)(fs:List Value)(k:Fn)(ka kc:Array Value)(u v:B.V)(Tk:Nat->Value)(w:World)(h0:w.cell? ⟨eb,0,none⟩=some (.slice (some ⟨g,0,none⟩) nf nf))(Z:w.cell? ⟨g,f*2,none⟩=some (.int .i64 r0))(h2:w.cell? ⟨g,f*2+1,none⟩=some (.slice (some ⟨y,0,none⟩) c0 c0))(hT:Full w tb 160 7 7 Tk)(b7:Tk 1=.slice ao m ck)(hK:w.ownsRow 0 184 1 (.slice ao m ck) m fs)(hm:m<=1000)(he:eb<w.heap.size)(hg:g<w.heap.size)(hf:f<nf)(hr:2<=r0)(c7:r0<=8): Calls prog 119 #[P0 eb,P0 tb,.int .i64 f,vA u,vA v,.func k ka kc] w λe w'=>e=.returned (.tuple #[])/\FO w w' tb y c0 r0 m ck ao fs (.func k ka kc) u v Tk:=by
 obtain⟨u1,u2⟩:=u;obtain⟨v1,v2⟩:=v;obtain⟨i0,hi,aV,aR,aZ⟩:=info_parts Tryz.rE;have c5:(f:Int)<(nf:Int):=by omega
 have bQ:=hT.lt;have HT:=az hT;have aK:=az b7;have HK:=az hK;clear hT b7 hK;have bV:eb<w.heap.size+1:=by omega
 have bW:g<w.heap.size+1:=by omega
 go_in;go_wp2_with (at_make;go_loud (refine wpList_make_full _ rfl _ _ 137 rfl 0 149 i0 _ 2 underlying137 hi aV aR _ _ _ _ r0 rfl rfl rfl rfl (by rw[aZ];omega) (by unfold maxLen;omega) (dc _) ?_))
 intro w3 aH Y;have hz:=Y.size;simp at hz;have b4:=A7 aH;have bD:(w.alloc (.cells #[.int .i64 (u1:Int),.int .i64 u2] 149)).heap.size=w.heap.size+1:=by simp
 have x0:=cm Y (show(((w.alloc (.cells #[.int .i64 (u1:Int),.int .i64 u2] 149)).alloc (.cells #[.int .i64 (v1:Int),.int .i64 v2] 149)).alloc (.cells #[.int .i64 (r0:Int),.slice (some ⟨y,0,none⟩) c0 c0] 178)).heap[w.heap.size]? = some (.cells #[.int .i64 (u1:Int),.int .i64 u2] 149 (0,0)) by rw[ak _ _ _ (by simp;omega),ak _ _ _ (by simp)];exact bf _ _) (by intro e;cases e);have x1:=cm Y (show(((w.alloc (.cells #[.int .i64 (u1:Int),.int .i64 u2] 149)).alloc (.cells #[.int .i64 (v1:Int),.int .i64 v2] 149)).alloc (.cells #[.int .i64 (r0:Int),.slice (some ⟨y,0,none⟩) c0 c0] 178)).heap[w.heap.size+1]? = some (.cells #[.int .i64 (v1:Int),.int .i64 v2] 149 (0,0)) by rw[ak _ _ _ (by simp),<-bD];exact bf _ _) (by intro e;cases e);have x2:=cm Y (show(((w.alloc (.cells #[.int .i64 (u1:Int),.int .i64 u2] 149)).alloc (.cells #[.int .i64 (v1:Int),.int .i64 v2] 149)).alloc (.cells #[.int .i64 (r0:Int),.slice (some ⟨y,0,none⟩) c0 c0] 178)).heap[w.heap.size+1+1]? = some (.cells #[.int .i64 (r0:Int),.slice (some ⟨y,0,none⟩) c0 c0] 178 (0,0)) by(have:=bf ((w.alloc (.cells #[.int .i64 (u1:Int),.int .i64 u2] 149)).alloc (.cells #[.int .i64 (v1:Int),.int .i64 v2] 149)) (.cells #[.int .i64 (r0:Int),.slice (some ⟨y,0,none⟩) c0 c0] 178);simpa using this)) (by intro e;cases e);have b6:Hid (w.grownBy w3 none):=an (by repeat (first|exact ax _ _|refine au ?_ _)) Y;have H:Full w3 (w.heap.size+1+1+1) 149 (r0*2) (r0*2) (eC (λ_=>(0,0))):=by simpa using b4
 have aW:=az H;have a0:w3.cell? ⟨w.heap.size,0,none⟩=some (.int .i64 (u1:Int)):=by simp[World.cell?,x0]
 have a1:w3.cell? ⟨w.heap.size,1,none⟩=some (.int .i64 u2):=by simp[World.cell?,x0]
 have b0:w3.cell? ⟨w.heap.size+1,0,none⟩=some (.int .i64 (v1:Int)):=by simp[World.cell?,x1]
 have b1:w3.cell? ⟨w.heap.size+1,1,none⟩=some (.int .i64 v2):=by simp[World.cell?,x1]
 obtain⟨k0,e0⟩:=H.cells 0 (by omega);obtain⟨k1,e1⟩:=H.cells 1 (by omega);obtain⟨k2,e2⟩:=H.cells 2 (by omega);obtain⟨k3,e3⟩:=H.cells 3 (by omega);rw[mf]at k0 k1 k2 k3
 have c2:(1:Int)<(r0:Int):=by omega
 have bB:=az x2;clear aH Y b4 H x0 x1 x2 h0 Z h2 bD;go_wp2_with fail
 go_region
 generalize a8:World.drew ((((w3.setCell ⟨w.heap.size+1+1+1,0,none⟩ (.int .i64 (u1:Int))).setCell ⟨w.heap.size+1+1+1,1,none⟩ (.int .i64 u2)).setCell ⟨w.heap.size+1+1+1,2,none⟩ (.int .i64 (v1:Int))).setCell ⟨w.heap.size+1+1+1,3,none⟩ (.int .i64 v2))=i;have hb:∀b,b≠w.heap.size+1+1+1->i.heap[b]? = w3.heap[b]?:=by
  intro b hb;rw[<-a8];show(World.setCell _ _ _).heap[b]? = _;repeat (rw[af _ _ _ _ (by simpa using hb)])
 have aA:Hid (Full i (w.heap.size+1+1+1) 149 (r0*2) (r0*2) (eC (gh (u1,u2) (v1,v2)))):=by
  show Full _ _ _ _ _ _;rw[<-a8];refine Full.congr (show Full (World.drew _) _ _ _ _ _ from(((aW.out.ep 0 (.int .i64 (u1:Int))).ep 1 (.int .i64 u2)).ep 2 (.int .i64 (v1:Int))).ep 3 (.int .i64 v2)) (λj _=>?_);by_cases j3:j<4
  .rcases(show j=0\/j=1\/j=2\/j=3 by omega) with rfl|rfl|rfl|rfl<;>rfl
  rw[eG _ _ _ _ (by omega),eG _ _ _ _ (by omega),eG _ _ _ _ (by omega),eG _ _ _ _ (by omega)];have e:gh (u1,u2) (v1,v2) (j / 2)=(0,0):=by unfold gh;rw[aa (by omega),aa (by omega)]
  unfold eC;rw[e]
 have bG:i.heap.size=w3.heap.size:=by rw[<-a8];simp[World.setCell,World.drew]
 have aB:Hid (w.grownBy i none):=by
  rw[<-a8];repeat (first|exact b6.out|refine bq ?_|refine bp ?_ (ab (by simp;omega)) _)
 have aE:=az (HT.out.block (aB.out.block tb bQ (by intro e;cases e)));have aM:=az (dD HK.out (λk h=>aB.out.block k (dA HK.out k h).2.1 (by intro e;cases e)));have x2:=(hb (w.heap.size+1+1) (by omega)).trans bB.out;have f1:i.cell? ⟨w.heap.size+1+1,1,none⟩=some (.slice (some ⟨y,0,none⟩) c0 c0):=by simp[World.cell?,x2]
 obtain⟨t1,z1⟩:=aE.out.cells 1 (by omega);rw[aK.out]at t1;have aU:=aE.out.lt
 clear bG a8 hb x2 bB aW b6 a0 a1 b0 b1 k0 k1 k2 k3 e0 e1 e2 e3 hi aV aR aZ i0;obtain⟨j0,hj,bT,b8,bJ⟩:=info_parts Tryz.Dr;have kt:∀x,(Value.slice ao m ck).ownBlock=some x->x≠tb:=λx h=>eL HK.out HT.out (by decide) x h;have aJ:(ck<m+1/\(ao=none->m=0/\ck=0))\/(m+1<=ck/\∃G,ao=some ⟨G,0,none⟩):=by
  rcases HK.out.2 with⟨h,h0⟩|⟨g',c',bO,Z,_,_,h4,_⟩
  .injection h with a1 a2 a3;exact ag ⟨by omega,λ_=>⟨a2,a3⟩⟩
  injection Z with a1 a2 a3;by_cases bN:m+1<=ck
  .exact ab ⟨bN,g',a1⟩
  exact ag ⟨by omega,λe=>by rw[a1]at e;cases e⟩
 have hW:∀x,x<i.heap.size->(((i.alloc (ij y c0 0 (w.heap.size+1+1+1) r0 (.func k ka kc))).alloc (.cells #[P0 i.heap.size] 184)).drew).heap[x]? = i.heap[x]?:=λx hx=>(ak _ _ _ (by simp;omega)).trans (ak _ _ _ hx);have aG:(((i.alloc (ij y c0 0 (w.heap.size+1+1+1) r0 (.func k ka kc))).alloc (.cells #[P0 i.heap.size] 184)).drew).heap.size=i.heap.size+2:=by show(World.alloc _ _).heap.size=_;simp
 have aC:(((i.alloc (ij y c0 0 (w.heap.size+1+1+1) r0 (.func k ka kc))).alloc (.cells #[P0 i.heap.size] 184)).drew).heap[i.heap.size]? = some (ij y c0 0 (w.heap.size+1+1+1) r0 (.func k ka kc)):=by show(World.alloc _ _).heap[_]? = _;rw[ak _ _ _ (by simp)];exact bf _ _
 have aP:(((i.alloc (ij y c0 0 (w.heap.size+1+1+1) r0 (.func k ka kc))).alloc (.cells #[P0 i.heap.size] 184)).drew).cell? ⟨i.heap.size+1,0,none⟩=some (P0 i.heap.size):=by
  have Z:=bf (i.alloc (ij y c0 0 (w.heap.size+1+1+1) r0 (.func k ka kc))) (.cells #[P0 i.heap.size] 184);have h2:(i.alloc (ij y c0 0 (w.heap.size+1+1+1) r0 (.func k ka kc))).heap.size=i.heap.size+1:=by simp
  rw[h2]at Z;have h3:(((i.alloc (ij y c0 0 (w.heap.size+1+1+1) r0 (.func k ka kc))).alloc (.cells #[P0 i.heap.size] 184)).drew).heap[i.heap.size+1]? = some (.cells #[P0 i.heap.size] 184 (0,0)):=Z;simp only[World.cell?,h3];rfl
 have aF:∀j u,[P0 i.heap.size][j]? = some u->(((i.alloc (ij y c0 0 (w.heap.size+1+1+1) r0 (.func k ka kc))).alloc (.cells #[P0 i.heap.size] 184)).drew).cell? ((⟨i.heap.size+1,0,none⟩:Addr).add j)=some u:=λj u hj=>by
  match j,hj with
  | 0,hj=>(simp at hj;subst hj;exact aP)
 have aD:i.grownBy (((i.alloc (ij y c0 0 (w.heap.size+1+1+1) r0 (.func k ka kc))).alloc (.cells #[P0 i.heap.size] 184)).drew) none:=bq (au (au (ax _ _) _) _);rcases aJ with⟨b2,a9⟩|⟨a5,G,rfl⟩
 .have aY:=HK.out.1;have a6:∀b,ao=some b->∀j u,fs[j]? = some u->(((i.alloc (ij y c0 0 (w.heap.size+1+1+1) r0 (.func k ka kc))).alloc (.cells #[P0 i.heap.size] 184)).drew).cell? (b.add j)=some u:=λb hb j u hu=>by
   subst hb;rcases aM.out.2 with⟨h,_⟩|⟨g',c',bO,Z,_⟩
   .cases h
   injection Z with Z _ _;injection Z with Z;subst Z;obtain⟨_,_,_,_,hB,hc⟩:=iG aM.out;have h2:=hc j u hu;have h3:(((i.alloc (ij y c0 0 (w.heap.size+1+1+1) r0 (.func k ka kc))).alloc (.cells #[P0 i.heap.size] 184)).drew).cell? ⟨g',j,none⟩=some u:=by
    simp only[World.cell?]at h2 ⊢;rw[hW g' hB.lt];exact h2
   cases j with
   | zero=>simpa[Addr.add] using h3
   | succ j=>simpa[Addr.add] using h3
  have aI:=az (ay a9 (ay aY a6));have o:=az (ay aG (ay aC (ay aF aD)));clear a9 aY a6 hW aG aC aP aF aD;go_wp2_with fail
  go_region_law (refine step_append_grows rfl (.tmp 34) (.tmp 41) 156 rfl 184 j0 (.pointer none) 1 8 underlying156 hj bT b8 bJ rfl (by decide) ao m ck fs (by first|rfl|simp[Act.eval,Act.put]) aI.out.1 aI.out.2.1 aI.out.2.2 ⟨i.heap.size+1,0,none⟩ 1 1 [P0 i.heap.size] (by first|rfl|simp[Act.eval,Act.put]) rfl o.out.2.2.1 (by simp[Value.oneCell']) b2 (by unfold maxLen;omega) (by omega) ?_;intro v' w6 ho hg;obtain⟨G,bE,rfl⟩:=dM ho (by omega);have c3:=o.out.1▸(iG ho).1;have aO:=az (an o.out.2.2.2 hg);have bM:Hid (w6.heap[i.heap.size]? = some (ij y c0 0 (w.heap.size+1+1+1) r0 (.func k ka kc))):=cm hg o.out.2.1 (by intro e;cases e);have b5:=az (gw ho (dc _));have J:=az (aE.out.block (aO.out.block tb aU (by intro e;cases e)));obtain⟨d1,bL⟩:=J.out.cells 1 (by omega);have bH:=J.out.lt;clear ho hg)
  all_goals
   go_wp2_with fail
   go_end0;have aL:w.heap.size+1+1+1≠tb:=by omega
   have b9:=aA.out.lt;refine⟨rfl,G,bE,i.heap.size,w.heap.size+1+1+1,J.out.ep 1 _,dD b5.out (λx h=>af _ _ _ _ (eL b5.out J.out (by decide) x h)),⟨(af _ _ _ _ (show i.heap.size≠tb by omega)).trans bM.out,(aA.out.block (aO.out.block _ aA.out.lt (by intro e;cases e))).off aL,by omega⟩,by omega,by omega,bm (dU (an aB.out aO.out)) (ag (ag rfl)) _,ab (by omega)⟩
 obtain⟨_,bZ,bC,aS,a7,b3⟩:=iG aM.out;have aT:∀j,j < [P0 i.heap.size].length->((((i.alloc (ij y c0 0 (w.heap.size+1+1+1) r0 (.func k ka kc))).alloc (.cells #[P0 i.heap.size] 184)).drew).cell? ⟨G,0+m*1+j,none⟩).isSome=true/\(((i.alloc (ij y c0 0 (w.heap.size+1+1+1) r0 (.func k ka kc))).alloc (.cells #[P0 i.heap.size] 184)).drew).frozen? ⟨G,0+m*1+j,none⟩=false:=λj hj=>by
  have bR:j=0:=by simpa using hj
  subst bR;obtain⟨⟨v,h⟩,hf⟩:=a7.cell (0+m*1+0) (by omega);have hk:=hW G a7.lt;constructor
  .simp only[World.cell?]at h ⊢;rw[hk,h];rfl
  simp only[World.frozen?]at hf ⊢;rw[hk];exact hf
 have o:=az (ay aG (ay aC (ay aF (ay aD (ay aT hW)))));have W:=az (ay bC (ay aS (ay a7 b3)));have bK:G≠tb:=kt G rfl;have aQ:=a7.lt;clear hW aG aC aP aF aD aT bC aS a7 b3;go_wp2_with fail
 go_region_law (refine step_append_room rfl (.tmp 34) (.tmp 41) 156 rfl 184 j0 1 underlying156 hj b8 G 0 m ck (by first|rfl|simp[Act.eval,Act.put]) ⟨i.heap.size+1,0,none⟩ 1 1 [P0 i.heap.size] (by first|rfl|simp[Act.eval,Act.put]) rfl o.out.2.2.1 (by simp[Value.oneCell']) a5 o.out.2.2.2.2.1 ?_;generalize aX:World.setCells _ G _ _=w6;have a4:Hid (w6=(((i.alloc (ij y c0 0 (w.heap.size+1+1+1) r0 (.func k ka kc))).alloc (.cells #[P0 i.heap.size] 184)).drew).setCells G (0+m*1) [P0 i.heap.size]):=aX.symm;clear aX;have aN:Hid (∀x,x≠G->w6.heap[x]? = (((i.alloc (ij y c0 0 (w.heap.size+1+1+1) r0 (.func k ka kc))).alloc (.cells #[P0 i.heap.size] 184)).drew).heap[x]?):=(λx hx=>by rw[a4.out];exact eU G x hx _ _ _);have J:=az (aE.out.block ((aN.out tb (λe=>bK e.symm)).trans (o.out.2.2.2.2.2 tb aU)));obtain⟨d1,bL⟩:=J.out.cells 1 (by omega);have bH:=J.out.lt)
 all_goals
  rw[aK.out]at d1;go_wp2_with fail
  go_end0;have aL:w.heap.size+1+1+1≠tb:=by omega
  have b9:=aA.out.lt;have bI:w.heap.size+1+1+1≠G:=by
   have:=(dA HK.out G rfl).2.1;omega
  have c4:w6.heap.size=i.heap.size+2:=by rw[a4.out,lK];exact o.out.1
  have bA:w6.ownsRow 0 184 1 (.slice (some ⟨G,0,none⟩) (m+1) ck) (m+1) (fs++[P0 i.heap.size]):=by
   refine qf (dc _) a5 W.out.1 (by simp[W.out.2.1]) ?_ (λj x hx=>?_)
   .rw[a4.out];refine jB.Ex G _ _ _ ?_;obtain⟨cu,q1,q2⟩:=W.out.2.2.1;exact⟨cu,(o.out.2.2.2.2.2 G aQ).trans q1,q2⟩
   rw[a4.out];by_cases hj:j<m
   .rw[World.cell?_setCells_out G _ _ _ _ (λ_ _=>ag (by show j<0+m*1;omega))];rw[du (by rw[W.out.2.1];exact hj)]at hx;have h2:=W.out.2.2.2 j x hx;simp only[World.cell?]at h2 ⊢;rw[o.out.2.2.2.2.2 G aQ];exact h2
   have bP:j=m:=by
    have:=(bu.1 hx).1;simp[W.out.2.1]at this;omega
   subst bP;rw[dX (by rw[W.out.2.1];exact bj _),W.out.2.1,Nat.sub_self]at hx;have:=World.cell?_setCells_in G [P0 i.heap.size] (0+j*1) (((i.alloc (ij y c0 0 (w.heap.size+1+1+1) r0 (.func k ka kc))).alloc (.cells #[P0 i.heap.size] 184)).drew) (λt ht=>(o.out.2.2.2.2.1 t ht).1) 0 (by simp);rw[show(0+j*1+0)=j by omega]at this;rw[this];exact hx
  have bF:dy (λx=>x=tb\/(Value.slice (some ⟨G,0,none⟩) m ck).ownBlock=some x) w w6:=by
   rw[a4.out];exact qh G (ab rfl) _ _ (dU (an aB.out o.out.2.2.2.1))
  have bS:w6.heap[i.heap.size]? = some (ij y c0 0 (w.heap.size+1+1+1) r0 (.func k ka kc)):=(aN.out _ (by omega)).trans o.out.2.1;refine⟨rfl,G,ck,i.heap.size,w.heap.size+1+1+1,J.out.ep 1 _,dD bA (λx h=>af _ _ _ _ (eL bA J.out (by decide) x h)),⟨(af _ _ _ _ (show i.heap.size≠tb by omega)).trans bS,(aA.out.block ((aN.out _ bI).trans (o.out.2.2.2.2.2 _ b9))).off aL,by omega⟩,by omega,by omega,bm bF (ag (ag rfl)) _,ag rfl⟩
def iV(kv:List B.V)(v:B.V):List B.V:=if v.1≠0/\v∉kv then kv++[v] else kv
def J7(w w':World)(eb ob m co j k c:Nat)(ad:Option Addr)(ov kv:List B.V)(v:B.V)(E:Nat->Value):Prop:=
 ∃vv,Full w' eb 144 44 44 (ep E 31 vv)/\w'.ownsRow 0 149 2 (.slice (some ⟨ob,0,none⟩) m co) m (fT (ov.set j v))/\w'.ownsRow 0 149 2 vv (iV kv v).length (fT (iV kv v))/\dy (λx=>x=eb\/x=ob\/(Value.slice ad k c).ownBlock=some x) w w'/\(vv.ownBlock=(Value.slice ad k c).ownBlock\/∃g,vv.ownBlock=some g/\w.heap.size<=g)
theorem Jq(eb ob m co j k c:Nat)(ad:Option Addr)(v:B.V)(ov Y:List B.V)(E:Nat->Value)(w:World)(hE:Full w eb 144 44 44 E)(b2:E 30=.slice (some ⟨ob,0,none⟩) m co)(ho:w.ownsRow 0 149 2 (.slice (some ⟨ob,0,none⟩) m co) m (fT ov))(aE:E 31=.slice ad k c)(hk:w.ownsRow 0 149 2 (.slice ad k c) k (fT Y))(hj:j<m)(hm:m<=1000000000)(cV:k<=1000000)(no:∀x,(Value.slice ad k c).ownBlock=some x->x≠ob): Calls prog 211 #[P0 eb,.int .i64 ((j:Int)+1),vA v] w λe w'=>e=.returned (.tuple #[])/\J7 w w' eb ob m co j k c ad ov Y v E:=by
 obtain⟨i0,hi,cH,bJ,cL⟩:=info_parts Tryz.rE;obtain⟨bV,cF⟩:=hE.cells 30 (by omega);obtain⟨aK,b7⟩:=hE.cells 31 (by omega);rw[b2]at bV;have le:=hE.lt;have oe:=eL ho hE (by decide) ob rfl;obtain⟨_,aS,a8,a7,a6,aW⟩:=ru ho;have lo:=a6.lt;obtain⟨⟨y0,o0⟩,p0⟩:=a6.cell (j*2) (by omega);obtain⟨⟨y1,o1⟩,p1⟩:=a6.cell (j*2+1) (by omega);have c4:Y.length=k:=by
  have:=hk.1;rw[jr]at this;omega
 have HE:=az hE;have aC:=az aE;have HO:=az (ay aS (ay a8 (ay a7 (ay a6 aW))));have HK:=az hk;have bK:=az no;have Z:=az c4;clear hE b2 aE ho hk aS a8 a7 a6 aW no c4;have cC:¬eb=ob:=λe=>oe e.symm
 have d0:ob<w.heap.size+1:=by omega
 have d3:(j:Int)<m:=by omega
 have d4:IntKind.i64.wrap (j:Int)=j:=nS _ ⟨by omega,by omega⟩;have d1:(0:Int)<=j:=by omega
 obtain⟨y,G⟩:=v;go_in;go_wp2_with fail
 go_region
 generalize a9:World.drew (((w.setCell ⟨ob,j*2,none⟩ (.int .i64 y)).setCell ⟨ob,j*2+1,none⟩ (.int .i64 G)).alloc (.cells #[.int .i64 y,.int .i64 G] 149))=w2;have bG:w2.heap[w.heap.size]? = some (.cells #[.int .i64 y,.int .i64 G] 149 (0,0)):=by
  have hz:((w.setCell ⟨ob,j*2,none⟩ (.int .i64 y)).setCell ⟨ob,j*2+1,none⟩ (.int .i64 G)).heap.size=w.heap.size:=by simp[World.setCell]
  rw[<-a9,<-hz];exact bf _ _
 have cU:w2.heap.size=w.heap.size+1:=by rw[<-a9];simp[World.setCell]
 have aD:∀x,x≠ob->x<w.heap.size->w2.heap[x]? = w.heap[x]?:=λx h1 h2=>by
  rw[<-a9];show(World.alloc _ _).heap[x]? = _;rw[ak _ _ _ (by simp[World.setCell];exact h2),af _ _ _ _ h1,af _ _ _ _ h1]
 have b3:Hid (Full w2 eb 144 44 44 E):=HE.block (aD eb cC le);have b9:=az (dD HK (λx h=>aD x (bK x h) (dA HK x h).2.1));have bC:Hid (w2.ownsRow 0 149 2 (.slice (some ⟨ob,0,none⟩) m co) m (fT (ov.set j (y,G)))):=by
  obtain⟨aS,a8,a7,a6,aW⟩:=HO;have bP:jB ((w.setCell ⟨ob,j*2,none⟩ (.int .i64 y)).setCell ⟨ob,j*2+1,none⟩ (.int .i64 G)) ob 149 (co*2):=(a6.set ob _ _).set ob _ _;have hX:w2.heap[ob]? = ((w.setCell ⟨ob,j*2,none⟩ (.int .i64 y)).setCell ⟨ob,j*2+1,none⟩ (.int .i64 G)).heap[ob]?:=by
   rw[<-a9];exact ak _ _ _ bP.lt
  have aF:∀o,w2.cell? ⟨ob,o,none⟩=((w.setCell ⟨ob,j*2,none⟩ (.int .i64 y)).setCell ⟨ob,j*2+1,none⟩ (.int .i64 G)).cell? ⟨ob,o,none⟩:=λo=>by simp only[World.cell?,hX]
  refine zK (dc _) aS a8 (by rw[dq,a7]) (by obtain⟨cu,q1,q2⟩:=bP;exact⟨cu,hX.trans q1,q2⟩) (λi x hx=>?_);rw[aF,aF];by_cases bU:i=j
  .subst bU;rw[List.getElem?_set_self (by omega)]at hx;injection hx with hx;subst hx;constructor
   .rw[dF _ _ _ _ (by intro e;injection e with _ e;omega)];exact World.cell?_setCell_same _ _ _ o0
   exact World.cell?_setCell_same _ _ _ ((dF _ _ _ _ (by intro e;injection e with _ e;omega)).trans o1)
  rw[List.getElem?_set_ne (λe=>bU e.symm)]at hx;obtain⟨q1,q2⟩:=aW i x hx;constructor
  .rw[dF _ _ _ _ (by intro e;injection e with _ e;omega),dF _ _ _ _ (by intro e;injection e with _ e;omega)];exact q1
  rw[dF _ _ _ _ (by intro e;injection e with _ e;omega),dF _ _ _ _ (by intro e;injection e with _ e;omega)];exact q2
 have c7:Hid (dy (λx=>x=eb\/x=ob\/(Value.slice ad k c).ownBlock=some x) w w2):=by
  show dy _ _ _;rw[<-a9];exact qi (gF (bm (bm (dk _ _) (ag (ab (ag rfl))) _) (ag (ab (ag rfl))) _) _)
 have b0:w2.cell? ⟨w.heap.size,0,none⟩=some (.int .i64 y):=by simp[World.cell?,bG]
 have b1:w2.cell? ⟨w.heap.size,1,none⟩=some (.int .i64 G):=by simp[World.cell?,bG]
 clear a9 bV cF o0 o1 p0 p1 y0 y1 bG aD HO HE HK;obtain⟨aK,b7⟩:=b3.cells 31 (by omega);have cT:eb<w2.heap.size:=by omega
 have c9:w.heap.size<w2.heap.size:=by omega
 go_wp2_with fail
 refine(ft (y,G) _).mono ?_;rintro e w3 ⟨rfl,a5⟩;have cX:=a5.size;have bO:=az (c7.gR a5);have b8:=az (b3.block (a5.block eb cT (by intro e;cases e)));have aR:=az (dD bC (λx h=>a5.block x (dA bC x h).2.1 (by intro e;cases e)));have aB:=az (dD b9 (λx h=>a5.block x (dA b9 x h).2.1 (by intro e;cases e)));obtain⟨k0,_⟩:=bh a5 (a:=⟨w.heap.size,0,none⟩) c9;obtain⟨k1,_⟩:=bh a5 (a:=⟨w.heap.size,1,none⟩) c9;rw[b0]at k0;rw[b1]at k1;have bW:eb<w3.heap.size:=by omega
 have bZ:w.heap.size<w3.heap.size:=by omega
 obtain⟨aT,bS⟩:=b8.cells 31 (by omega);rw[aC.out]at aT;clear a5 b0 b1 b3 bC b9 c7;have aL:∀w4,w3.grownBy w4 none->iV Y (y,G)=Y->J7 w w4 eb ob m co j k c ad ov Y (y,G) E:=λw4 J aN=>by
  refine⟨.slice ad k c,(b8.block (J.block eb bW (by intro e;cases e))).congr (λi _=>?_),dD aR (λx h=>J.block x (dA aR x h).2.1 (by intro e;cases e)),?_,bO.gR J,ag rfl⟩
  .by_cases aZ:i=31
   .subst aZ;rw[gf,aC.out]
   rw[eG _ _ _ _ aZ]
  rw[aN,Z.out];exact dD aB (λx h=>J.block x (dA aB x h).2.1 (by intro e;cases e))
 have c6:=az aL;clear aL;by_cases hv:y=0
 .subst hv;simp only[decide_true];go_wp2_with fail
  go_quiet (fail)
  go_wp2_with fail
  go_end0;exact⟨rfl,c6 _ (db (ax _ _) _) (by unfold iV;rw[aa (by simp)])⟩
 have hd:decide (y=0)=false:=by simpa using hv
 simp only[hd];clear hd;have cK:Hid (∀w4,w3.grownBy w4 none->Calls prog 224 #[.slice ad k c,vA (y,G)] w4 λe w'=>e=.returned (.bool (decide (((y,G):B.V)∈Y)))/\w4.grownBy w' none):=λw4 J=>by
  have c8:=dD aB (λx h=>J.block x (dA aB x h).2.1 (by intro e;cases e));rcases c8.2 with⟨h,h0⟩|⟨g',c',bD,h1,_,h3,_⟩
  .injection h with a1 a2 a3;subst a1 a2 a3;obtain rfl:Y=[]:=List.eq_nil_of_length_eq_zero Z;exact uK (y,G) 0 0 0 none [] w4 rfl (by omega) (λi x hx=>by simp at hx) (λh=>ch rfl h)
  injection h1 with a1 a2 a3;subst a1;obtain⟨_,_,_,_,hB,hc⟩:=ru c8;exact uK (y,G) g' c k _ Y w4 Z.symm (by omega) (λi x hx=>⟨rfl,hc i x hx⟩) (λ_=>hB.lt)
 go_wp2_with fail
 go_cut [31] from 21 to 31 (λx wx=>x=.bool (!decide (((y,G):B.V)∈Y))/\Hid (w3.grownBy wx none))
 case first=>
  go_region_with (go_at_call 224;refine(cK w3.drew (bq (ax _ _))).mono ?_;rintro e w4 ⟨rfl,J⟩;have a0:Hid (w3.grownBy w4 none):=⟨J.os,J.tape,J.output,J.size,J.block⟩;clear J)
  all_goals
   go_wp2_with fail
   go_meet
   case rel=>exact⟨rfl,a0⟩
 case rest=>
  obtain⟨rfl,a0⟩:=hcut;by_cases aA:((y,G):B.V)∈Y
  .have hd:decide (((y,G):B.V)∈Y)=true:=by simpa using aA
   rw[hd];have bF:=az aA;clear aA hd;go_wp2_with fail
   go_end0;exact⟨rfl,c6 _ a0 (by unfold iV;rw[aa (λh=>h.2 bF)])⟩
  have hd:decide (((y,G):B.V)∈Y)=false:=by simpa using aA
  rw[hd];have bF:=az aA;clear aA hd;have aN:iV Y (y,G)=Y++[(y,G)]:=by unfold iV;rw[aj ⟨hv,bF⟩]
  have bR:=az aN;have cY:=a0.size;obtain⟨cI,_⟩:=bh a0 (a:=⟨w.heap.size,0,none⟩) bZ;obtain⟨cN,_⟩:=bh a0 (a:=⟨w.heap.size,1,none⟩) bZ;rw[k0]at cI;rw[k1]at cN;have aO:=az (b8.block (a0.block eb bW (by intro e;cases e)));have bX:=az (bO.gR a0);have aV:=az (dD aR (λx h=>a0.block x (dA aR x h).2.1 (by intro e;cases e)));have aI:=az (dD aB (λx h=>a0.block x (dA aB x h).2.1 (by intro e;cases e)));clear k0 k1 aT bS aN;obtain⟨aT,bS⟩:=aO.cells 31 (by omega);rw[aC.out]at aT;have bI:eb<wc.heap.size:=by omega
  have d5:w.heap.size<wc.heap.size:=by omega
  have hW:∀x,x<wc.heap.size->((wc.alloc (.cells #[.int .i64 y,.int .i64 G] 149)).drew).heap[x]? = wc.heap[x]?:=λx hx=>ak _ _ _ hx;have aY:((wc.alloc (.cells #[.int .i64 y,.int .i64 G] 149)).drew).heap.size=wc.heap.size+1:=by show(World.alloc _ _).heap.size=_;simp
  have aX:((wc.alloc (.cells #[.int .i64 y,.int .i64 G] 149)).drew).heap[wc.heap.size]? = some (.cells #[.int .i64 y,.int .i64 G] 149 (0,0)):=bf wc _;have q0:((wc.alloc (.cells #[.int .i64 y,.int .i64 G] 149)).drew).cell? ⟨wc.heap.size,0,none⟩=some (.int .i64 y):=by simp only[World.cell?,aX];rfl
  have q1:((wc.alloc (.cells #[.int .i64 y,.int .i64 G] 149)).drew).cell? ⟨wc.heap.size,0+1,none⟩=some (.int .i64 G):=by simp only[World.cell?,aX];rfl
  have aU:∀i u,[Value.int .i64 y,.int .i64 G][i]? = some u->((wc.alloc (.cells #[.int .i64 y,.int .i64 G] 149)).drew).cell? ((⟨wc.heap.size,0,none⟩:Addr).add i)=some u:=λi u hj=>by
   match i,hj with
   | 0,hj=>(simp at hj;subst hj;exact q0)
   | 1,hj=>(simp at hj;subst hj;exact q1)
  have aQ:wc.grownBy ((wc.alloc (.cells #[.int .i64 y,.int .i64 G] 149)).drew) none:=bq (au (ax _ _) _);have cJ:∀x,(Value.slice ad k c).ownBlock=some x->x≠eb:=λx h=>eL aI aO (by decide) x h;have b6:(c<k+1/\(ad=none->k=0/\c=0))\/(k+1<=c/\∃W,ad=some ⟨W,0,none⟩):=by
   rcases aI.2 with⟨h,h0⟩|⟨g',c',bD,h1,_,_,h4,_⟩
   .injection h with a1 a2 a3;exact ag ⟨by omega,λ_=>⟨a2,a3⟩⟩
   injection h1 with a1 a2 a3;by_cases cO:k+1<=c
   .exact ab ⟨cO,g',a1⟩
   exact ag ⟨by omega,λe=>by rw[a1]at e;cases e⟩
  rcases b6 with⟨bY,aM⟩|⟨aG,W,rfl⟩
  .have a7:=aI.1;have aH:∀b,ad=some b->∀i u,(fT Y)[i]? = some u->((wc.alloc (.cells #[.int .i64 y,.int .i64 G] 149)).drew).cell? (b.add i)=some u:=λb hb i u hu=>by
    subst hb;rcases aI.2 with⟨h,_⟩|⟨g',c',bD,h1,_,h3,_,_,_,h7⟩
    .cases h
    injection h1 with h1 _ _;injection h1 with h1;subst h1;have cS:i<k*2:=by
     have:=(bu.1 hu).1;omega
    rw[<-h7,dh,aj cS]at hu;have h4:((wc.alloc (.cells #[.int .i64 y,.int .i64 G] 149)).drew).cell? ⟨g',i,none⟩=some u:=by
     simp only[World.cell?,hW g' (bz h3),h3];simpa using hu
    cases i with
    | zero=>simpa[Addr.add] using h4
    | succ i=>simpa[Addr.add] using h4
   have b5:=az (ay aM (ay a7 aH));have H:=az (ay aY (ay aU aQ));clear aM a7 aH hW aY aX aU aQ;go_wp2_with fail
   go_region_law (refine step_append_grows rfl (.tmp 36) (.tmp 38) 137 rfl 149 i0 (.agg #[.int .i64 0,.int .i64 0]) 2 16 underlying137 hi cH bJ cL rfl (by decide) ad k c (fT Y) (by first|rfl|simp[Act.eval,Act.put]) b5.1 b5.2.1 b5.2.2 ⟨wc.heap.size,0,none⟩ 1 1 [.int .i64 y,.int .i64 G] (by first|rfl|simp[Act.eval,Act.put]) rfl H.2.1 (by simp[Value.oneCell']) bY (by unfold maxLen;omega) (by omega) ?_;intro v' w6 ho hg;obtain⟨g,c',rfl⟩:=dM ho (by omega);have cA:Hid (w6.ownsRow 0 149 2 (.slice (some ⟨g,0,none⟩) (k+1) c') (k+1) (fT (Y++[(y,G)]))):=(oY Y [(y,G)])▸gw ho (dc _);have d6:wc.heap.size+1<=g:=H.1▸(by rcases ho.2 with⟨h,_⟩|⟨g',c',bD,h1,h2,_⟩;cases h;cases h1;exact h2);have bE:=az (an H.2.2 hg);have a4:=az (aO.block (bE.block eb bI (by intro e;cases e)));obtain⟨bA,cP⟩:=a4.cells 31 (by omega);have cQ:=a4.lt;clear ho hg)
   all_goals
    go_wp2_with fail
    go_end0;refine⟨rfl,.slice (some ⟨g,0,none⟩) (k+1) c',a4.ep 31 _,dD aV (λx h=>?_),?_,bm (bX.gR bE) (ag (ag rfl)) _,ab ⟨g,rfl,by omega⟩⟩
    .have bB:x=ob:=by injection h with h;exact h.symm
     subst bB;exact(af _ _ _ _ oe).trans (bE.block x (dA aV x rfl).2.1 (by intro e;cases e))
    rw[bR.out,bo,Z.out];exact dD cA (λx h=>af _ _ _ _ (eL cA a4 (by decide) x h))
  obtain⟨_,cZ,a8,bL,aJ,c2⟩:=ru aI;have bM:∀i,i < [Value.int .i64 y,.int .i64 G].length->(((wc.alloc (.cells #[.int .i64 y,.int .i64 G] 149)).drew).cell? ⟨W,0+k*2+i,none⟩).isSome=true/\((wc.alloc (.cells #[.int .i64 y,.int .i64 G] 149)).drew).frozen? ⟨W,0+k*2+i,none⟩=false:=λi cR=>by
   have cW:i<2:=cR;obtain⟨⟨v,h⟩,hf⟩:=aJ.cell (0+k*2+i) (by omega);have hk:=hW W aJ.lt;constructor
   .simp only[World.cell?]at h ⊢;rw[hk,h];rfl
   simp only[World.frozen?]at hf ⊢;rw[hk];exact hf
  have H:=az (ay aY (ay aU (ay aQ (ay bM hW))));have b4:=az (ay a8 (ay bL (ay aJ c2)));have bQ:W≠eb:=cJ W rfl;have bN:W≠ob:=bK W rfl;have bH:=aJ.lt;clear hW aY aX aU aQ bM a8 bL aJ c2 q0 q1;go_wp2_with fail
  go_region_law (refine step_append_room rfl (.tmp 36) (.tmp 38) 137 rfl 149 i0 2 underlying137 hi bJ W 0 k c (by first|rfl|simp[Act.eval,Act.put]) ⟨wc.heap.size,0,none⟩ 1 1 [.int .i64 y,.int .i64 G] (by first|rfl|simp[Act.eval,Act.put]) rfl H.2.1 (by simp[Value.oneCell']) aG H.2.2.2.1 ?_;generalize bT:World.setCells _ W _ _=w6;have aP:Hid (w6=((wc.alloc (.cells #[.int .i64 y,.int .i64 G] 149)).drew).setCells W (0+k*2) [.int .i64 y,.int .i64 G]):=bT.symm;clear bT;have c3:Hid (∀x,x≠W->w6.heap[x]? = ((wc.alloc (.cells #[.int .i64 y,.int .i64 G] 149)).drew).heap[x]?):=(λx hx=>by rw[aP.out];exact eU W x hx _ _ _);have a4:=az (aO.block ((c3 eb (λe=>bQ e.symm)).trans (H.2.2.2.2 eb bI)));obtain⟨bA,cP⟩:=a4.cells 31 (by omega);have cQ:=a4.lt)
  all_goals
   rw[aC.out]at bA;go_wp2_with fail
   go_end0;have cB:w6.ownsRow 0 149 2 (.slice (some ⟨W,0,none⟩) (k+1) c) (k+1) (fT (Y++[(y,G)])):=by
    refine zK (dc _) aG b4.1 (by simp[Z.out]) ?_ (λi x hx=>?_)
    .rw[aP.out];refine jB.Ex W _ _ _ ?_;obtain⟨cu,q1,q2⟩:=b4.2.2.1;exact⟨cu,(H.2.2.2.2 W bH).trans q1,q2⟩
    rw[aP.out];by_cases cM:i<k
    .rw[du (by rw[Z.out];exact cM)]at hx;obtain⟨q1,q2⟩:=b4.2.2.2 i x hx;rw[World.cell?_setCells_out W _ _ _ _ (λ_ _=>ag (by show i*2<0+k*2;omega)),World.cell?_setCells_out W _ _ _ _ (λ_ _=>ag (by show i*2+1<0+k*2;omega))];simp only[World.cell?]at q1 q2 ⊢;rw[H.2.2.2.2 W bH];exact⟨q1,q2⟩
    have c5:i=k:=by
     have:=(bu.1 hx).1;simp[Z.out]at this;omega
    subst c5;rw[dX (by rw[Z.out];exact bj _),Z,Nat.sub_self]at hx;have cD:x=(y,G):=by
     have:some (y,G)=some x:=hx;injection this with this;exact this.symm
    subst cD;have s0:=World.cell?_setCells_in W [.int .i64 y,.int .i64 G] (0+i*2) ((wc.alloc (.cells #[.int .i64 y,.int .i64 G] 149)).drew) (λt ht=>(H.2.2.2.1 t ht).1) 0 (by simp);have s1:=World.cell?_setCells_in W [.int .i64 y,.int .i64 G] (0+i*2) ((wc.alloc (.cells #[.int .i64 y,.int .i64 G] 149)).drew) (λt ht=>(H.2.2.2.1 t ht).1) 1 (by simp);rw[show(0+i*2+0)=i*2 by omega]at s0;rw[show(0+i*2+1)=i*2+1 by omega]at s1;exact⟨s0,s1⟩
   have cG:dy (λx=>x=eb\/x=ob\/(Value.slice (some ⟨W,0,none⟩) k c).ownBlock=some x) w w6:=by
    rw[aP.out];exact qh W (ab (ab rfl)) _ _ (bX.gR H.2.2.1)
   refine⟨rfl,.slice (some ⟨W,0,none⟩) (k+1) c,a4.ep 31 _,dD aV (λx h=>?_),?_,bm cG (ag (ag rfl)) _,ag rfl⟩
   .have bB:x=ob:=by injection h with h;exact h.symm
    subst bB;exact(af _ _ _ _ oe).trans ((c3 x (λe=>bN e.symm)).trans (H.2.2.2.2 x (dA aV x rfl).2.1))
   rw[bR.out,bo,Z.out];exact dD cB (λx h=>af _ _ _ _ (eL cB a4 (by decide) x h))
theorem IG(op a b c fb tb eb sx cb L nx rb nr:Nat)(back:Value)(Q:Nat->B.V)(v:B.V)(R:World->Prop)(w:World)(hx:w.heap[sx]? = some (lZ op a b c fb tb eb))(hf:w.heap[fb]? = some (ij cb L nx rb nr back))(hr:Full w rb 149 (nr*2) (nr*2) (eC Q))(ha:a<nr)(le:eb<w.heap.size)(H:∀w1,w.grownBy w1 (some rb)->Full w1 rb 149 (nr*2) (nr*2) (eC (B.set Q a v))->Calls prog 110 #[Pt eb 32,P0 tb] w1 λe w2=>e=.returned (.tuple #[])/\R w2): Calls prog 207 #[vA v,P0 sx] w λe w'=>e=.returned (.tuple #[])/\R w':=by
 obtain⟨x0,x1,x2,x3,x4,x5,x6⟩:=fk hx;have lx:=bz hx
 have a0:sx≠rb:=by
  rintro rfl;obtain⟨cu,q,_⟩:=hr;have J:w.heap[sx]? = some (.cells #[.int .u8 (op:Int),.int .u8 (a:Int),.int .u8 (b:Int),.int .u8 (c:Int),P0 fb,P0 tb,P0 eb] 186 (0,0)):=hx;rw[q]at J;injection J with q2;injection q2 with _ q2 _;exact ch q2 (by decide)
 have HH:=az H;have HX:=az hx;have HF:=az hf;have HR:=az hr;clear H hx hf hr;obtain⟨v1,v2⟩:=v;go_in;go_wp2_with fail
 generalize hW:w.alloc (.cells #[.int .i64 (v1:Int),.int .i64 v2] 149)=w1;have Z:Hid (w.grownBy w1 none):=by rw[<-hW];exact ah _ _ _
 refine(js op a b c fb tb eb cb L nx rb nr back Q (v1,v2) w1 (dp Z.out HF.out) (HR.out.block (Z.out.block rb HR.out.lt (by intro e;cases e))) ha).mono ?_;rintro e w2 ⟨rfl,G,o⟩;have hG:=an (mQ Z.out rb) G;have i:=cm hG HX.out (by intro e;injection e with e;exact a0 e);obtain⟨y0,y1,y2,y3,y4,y5,y6⟩:=fk i;have HJ:Hid (∀W,w2.grownBy W none->Calls prog 110 #[Pt eb 32,P0 tb] W λe w'=>e=.returned (.tuple #[])/\R w'):=λW u=>HH.out W (an hG (mQ u rb)) (o.block (u.block rb o.lt (by intro e;cases e)));clear G o hG i hW x0 x1 x2 x3 x4 x5 x6;go_wp2_with fail
 go_region_with (go_at_call 110;refine(HJ.out w2.drew (bq (ax _ _))).mono ?_;rintro e w4 ⟨rfl,y⟩;have a1:=az y;clear y)
 all_goals
  go_wp2_with fail
  go_end0;exact⟨rfl,a1.out⟩
def x7(w:World)(xb tb:Nat)(v:B.V):Prop:=w.heap[xb]? = some (.cells #[P0 tb] 155 (0,0))/\w.heap[xb+1]? = some (.cells #[.int .i64 (v.1:Int),.int .i64 v.2] 149 (0,0))
theorem Hc(eb tb kind t n c:Nat)(x:Int)(v:B.V)(ad:Option Addr)(S1 S3:World->Prop)(S2:Value->World->Prop)(I:List Nat->World->Prop)(sx:Nat->Nat)(xs:List Nat)(w:World)(H1:∀w1,w.grownBy w1 none->x7 w1 w.heap.size tb v->Calls prog 133 #[P0 tb] w1 λe w2=>e=.returned (.tuple #[])/\S1 w2)(aF:∀w1,S1 w1->x7 w1 w.heap.size tb v/\(∃Tk,Full w1 tb 160 7 7 Tk)/\(w1.setCell ⟨tb,2,none⟩ (.bool false)).cell? ⟨eb,29,none⟩=some (.slice ad n c)/\eb<w1.heap.size)(H2:∀w1,S1 w1->Calls prog 209 #[.slice ad n c,Fv 210 #[P0 w.heap.size]] (w1.setCell ⟨tb,2,none⟩ (.bool false)) λe w2=>∃a' n' Z,e=.returned (.slice a' n' Z)/\S2 (.slice a' n' Z) w2)(aH:∀lv w2,S2 lv w2->x7 (w2.setCell ⟨eb,29,none⟩ lv) w.heap.size tb v/\(∃E,Full w2 eb 144 44 44 E)/\(w2.setCell ⟨eb,29,none⟩ lv).cell? ⟨tb,0,none⟩=some (.int .i64 (t:Int))/\tb<w2.heap.size)(H3:∀lv w2 G,S2 lv w2->(w2.setCell ⟨eb,29,none⟩ lv).grownBy G none->Calls prog 211 #[P0 eb,.int .i64 (t:Int),vA v] G λe i=>e=.returned (.tuple #[])/\S3 i)(a8:∀G,S3 G->x7 G w.heap.size tb v)(H4:∀G,S3 G->Calls prog 173 #[P0 eb,.int .i64 kind,P0 tb,.int .i64 x] G λe i=>e=.returned (.tuple #[])/\I xs i)(hI:∀ys i,I ys i->x7 i w.heap.size tb v/\tb<i.heap.size/\(∀Y,i.grownBy Y none->I ys Y)/\(ys=[]->∃a' Z,i.cell? ⟨tb,6,none⟩=some (.slice a' 0 Z))/\(∀y r,ys=y :: r->∃q Z,i.cell? ⟨tb,6,none⟩=some (.slice (some ⟨q,0,none⟩) (r.length+1) Z)/\i.cell? ⟨q,0,none⟩=some (P0 y)/\i.cell? ⟨y,4,none⟩=some (Fv 207 #[P0 (sx y)])/\y<i.heap.size))(HL:∀y r i,I (y :: r) i->Calls prog 207 #[vA v,P0 (sx y)] i λe Y=>e=.returned (.tuple #[])/\I r Y): Calls prog 175 #[P0 eb,P0 tb,vA v,.int .i64 kind,.int .i64 x] w λe w'=>e=.returned (.tuple #[])/\I [] w':=by
 have K1:=az H1;have aM:=az aF;have K2:=az H2;have aV:=az aH;have K3:=az H3;have aW:=az a8;have K4:=az H4;have KI:=az hI;have KL:=az HL;clear H1 aF H2 aH H3 a8 H4 hI HL;obtain⟨v1,v2⟩:=v;go_in;go_wp2_with fail
 generalize a4:(w.alloc (.cells #[P0 tb] 155)).alloc (.cells #[.int .i64 (v1:Int),.int .i64 v2] 149)=w1;have aA:w.grownBy w1 none:=by rw[<-a4];exact au (au (ax _ _) _) _
 have aG:x7 w1 w.heap.size tb (v1,v2):=by
  rw[<-a4];constructor
  .rw[ak _ _ _ (by simp)];exact bf _ _
  have h1:=bf (w.alloc (.cells #[P0 tb] 155)) (.cells #[.int .i64 (v1:Int),.int .i64 v2] 149);have h2:(w.alloc (.cells #[P0 tb] 155)).heap.size=w.heap.size+1:=by simp
  rw[h2]at h1;exact h1
 have KX:=az (K1.out w1 aA aG);clear a4 aA aG;refine KX.out.mono ?_;rintro e w2 ⟨rfl,a1⟩;obtain⟨a7,⟨Tk,hT⟩,b9,b6⟩:=aM.out w2 a1;have x0:w2.cell? ⟨w.heap.size,0,none⟩=some (P0 tb):=by simp[World.cell?,a7.1]
 obtain⟨t2,z2⟩:=hT.cells 2 (by omega);generalize Tk 2=y2 at t2;have aR:=az a1;clear a1 a7 hT;go_wp2_with fail
 refine(K2.out w2 aR.out).mono ?_;rintro e G ⟨a',n',Z,rfl,a3⟩;obtain⟨aE,⟨E3,a0⟩,b3,aN⟩:=aV.out _ G a3;obtain⟨aI,aO⟩:=a0.cells 29 (by omega);generalize E3 29=b4 at aI;have aU:=az a3;have J:=az aE;clear a3 a0 aE x0 t2 z2;go_wp2_with fail
 generalize a5:G.setCell ⟨eb,29,none⟩ (.slice a' n' Z)=i at *;have aP:i.heap.size=G.heap.size:=by rw[<-a5];simp[World.setCell]
 have x0:i.cell? ⟨w.heap.size,0,none⟩=some (P0 tb):=by simp[World.cell?,J.out.1]
 have x1:i.cell? ⟨w.heap.size+1,0,none⟩=some (.int .i64 (v1:Int)):=by simp[World.cell?,J.out.2]
 have x2:i.cell? ⟨w.heap.size+1,1,none⟩=some (.int .i64 v2):=by simp[World.cell?,J.out.2]
 have aL:Hid (∀Y,i.grownBy Y none->Calls prog 211 #[P0 eb,.int .i64 (t:Int),vA (v1,v2)] Y λe w6=>e=.returned (.tuple #[])/\S3 w6):=λY hg=>K3.out _ G Y aU.out (by rw[a5];exact hg);clear a5 aP aI aO aN;go_wp2_with fail
 go_cut [] (λwx=>Hid (S3 wx))
 case first=>
  go_region_with (go_at_call 211;refine(aL.out i.drew (bq (ax _ _))).mono ?_;rintro e w6 ⟨rfl,aB⟩;have W:=az aB;clear aB)
  all_goals
   go_wp2_with fail
   go_meet
   case rel=>exact W
 case rest=>
  have W:=hcut;have a6:=aW.out wc W.out;have q0:wc.cell? ⟨w.heap.size,0,none⟩=some (P0 tb):=by simp[World.cell?,a6.1]
  clear a6;go_wp2_with fail
  refine(K4.out wc W.out).mono ?_;rintro e w6 ⟨rfl,aD⟩;have aC:=az aD;clear aD q0 x0 x1 x2;go_wp2_with fail
  go_loopg [] (xs.length) (λn wr=>∃ys:List Nat,ys.length=n/\Hid (I ys wr))
  case atStart=>exact⟨xs,rfl,aC⟩
  case round=>
   obtain⟨ys,aK,rI⟩:=hrel;obtain⟨H,b5,a9,u,o⟩:=KI.out ys wr rI.out;have q0:wr.cell? ⟨w.heap.size,0,none⟩=some (P0 tb):=by simp[World.cell?,H.1]
   have q1:wr.cell? ⟨w.heap.size+1,0,none⟩=some (.int .i64 (v1:Int)):=by simp[World.cell?,H.2]
   have q2:wr.cell? ⟨w.heap.size+1,1,none⟩=some (.int .i64 v2):=by simp[World.cell?,H.2]
   have lq:=bz H.1;have b7:=bz H.2;have aX:=az a9;clear H a9 aC
   cases ys with
   | nil=>
    obtain⟨a2,c2,c6⟩:=u rfl;have hE:=gP tb 6 0 c2 a2 wr c6;simp only[decide_true]at hE;have HE:=az hE;clear hE u o;go_wp2_with fail
    refine HE.out.mono ?_;rintro e w8 ⟨rfl,rfl⟩;go_wp2_with fail
    go_end0;exact⟨rfl,rI.out⟩
   | cons y r=>
    obtain⟨q,c2,c6,cq,c4,ly⟩:=o y r rfl;have hE:=gP tb 6 (r.length+1) c2 (some ⟨q,0,none⟩) wr c6;have hd:decide ((r.length+1:Nat)=0)=false:=by simp
    rw[hd]at hE;have HE:=az hE;have aQ:=az (λ(w':World) (h:w'.cell? ⟨tb,6,none⟩=some (.slice (some ⟨q,0,none⟩) (r.length+1) c2)) (h2:w'.cell? ⟨q,0,none⟩=some (P0 y))=>qq tb 6 r.length c2 q y w' h h2);have aY:=az (λ(w':World) (hg:wr.grownBy w' none)=>KL.out y r w' (aX.out w' hg));clear hE hd u o;go_wp2_with fail
    refine HE.out.mono ?_;rintro e w8 ⟨rfl,rfl⟩;go_wp2_with fail
    go_region_with (first|(go_at_call 132;refine(aQ.out _ ?_ ?_).mono ?_;exact c6;exact cq;rintro e w9 ⟨rfl,rfl⟩)|(go_at_call 207;refine(aY.out w8.drew (bq (ax _ _))).mono ?_;rintro e w9 ⟨rfl,aJ⟩;have aT:=az aJ;clear aJ))
    all_goals
     go_wp2_with fail
     go_roundg (r.length)
     case measure=>first|omega|(simp at aK;omega)
     case rel=>exact⟨r,rfl,aT⟩
end
namespace F
def kK(f:Fb)(M:Nat->List B.V)(x y:B.V):Prop:=x.1≠0/\f.k x.1=0/\y.1=0/\0<=y.2/\y.2<((M x.1).length:Int)
def gI(f:Fb)(x y:B.V):Nat:=if x.1=0\/f.k x.1≠0 then 2 else if y.1≠0 then 1 else 3
theorem sv(f:Fb)(x y:B.V):1<=gI f x y/\gI f x y<=3:=by unfold gI;split;omega;split<;>omega
def FM(f:Fb)(M:Nat->List B.V)(x y:B.V)(v:Value):Prop:=
 (kK f M x y/\v=.tuple #[.int .i64 y.2,.int .i64 0])\/(¬kK f M x y/\v=.tuple #[.int .i64 0,.int .i64 (gI f x y)])
theorem wN(op a b c fb tb eb sb pb n:Nat)(x y:B.V)(kd:B.Kd)(vb:Vs)(M:Nat->List B.V)(w:World)(hS:jm w sb pb eb n kd vb M)(hn:n<=200)(hx:B.qO kd.on n x)(aE:w.cell? ⟨eb,27,none⟩=some (P0 sb))(le:eb<w.heap.size): Calls prog 158 #[dZ op a b c fb tb eb,vA x,vA y] w λe w'=>∃v,e=.returned v/\w.grownBy w' none/\FM vb.f M x y v:=by
 have KS:=az hS;have HX:=az hx;obtain⟨u,G⟩:=y;have a2:x.1≠0->(M x.1).length<=8:=λh0=>by
  rcases hx with h|h
  .exact ch h h0
  exact hS.p.l _ h.2.2.1
 clear hS hx;go_in;go_wp2_with fail
 generalize hW:((w.alloc (.cells #[.int .u8 (op:Int),.int .u8 (a:Int),.int .u8 (b:Int),.int .u8 (c:Int),P0 fb,P0 tb,P0 eb] 186)).alloc (.cells #[.int .i64 (x.1:Int),.int .i64 x.2] 149)).alloc (.cells #[.int .i64 (u:Int),.int .i64 G] 149)=w1;have a0:Hid (w.grownBy w1 none):=by rw[<-hW];exact au (au (ah _ _ _) _) _
 have a1:w1.heap[w.heap.size]? = some (lZ op a b c fb tb eb):=by rw[<-hW,ak _ _ _ (by simp;omega),ak _ _ _ (by simp)];exact bf w _
 have Y:w1.heap[w.heap.size+1]? = some (.cells #[.int .i64 (x.1:Int),.int .i64 x.2] 149 (0,0)):=by
  rw[<-hW,ak _ _ _ (by simp)];have:=bf (w.alloc (.cells #[.int .u8 (op:Int),.int .u8 (a:Int),.int .u8 (b:Int),.int .u8 (c:Int),P0 fb,P0 tb,P0 eb] 186)) (.cells #[.int .i64 (x.1:Int),.int .i64 x.2] 149);simpa using this
 have o:w1.heap[w.heap.size+1+1]? = some (.cells #[.int .i64 (u:Int),.int .i64 G] 149 (0,0)):=by
  rw[<-hW];have:=bf ((w.alloc (.cells #[.int .u8 (op:Int),.int .u8 (a:Int),.int .u8 (b:Int),.int .u8 (c:Int),P0 fb,P0 tb,P0 eb] 186)).alloc (.cells #[.int .i64 (x.1:Int),.int .i64 x.2] 149)) (.cells #[.int .i64 (u:Int),.int .i64 G] 149);simpa using this
 clear hW;have H3:=az o;have x6:=(fk a1).2.2.2.2.2.2;have c0:w1.cell? ⟨w.heap.size+1,0,none⟩=some (.int .i64 (x.1:Int)):=by simp[World.cell?,Y]
 have c1:w1.cell? ⟨w.heap.size+1,1,none⟩=some (.int .i64 x.2):=by simp[World.cell?,Y]
 obtain⟨a4,_⟩:=bh a0.out (a:=⟨eb,27,none⟩) le;rw[aE]at a4;have aB:=bz a1;have a9:=bz Y;have aM:=bz o;have aG:eb<w1.heap.size:=by omega
 clear a1 Y o;have HS:Hid (∀w':World,w1.grownBy w' none->w'.cell? ⟨w.heap.size,6,none⟩=some (P0 eb)/\w'.cell? ⟨eb,27,none⟩=some (P0 sb)/\w'.cell? ⟨w.heap.size+1,0,none⟩=some (.int .i64 (x.1:Int))/\w'.cell? ⟨w.heap.size+1,1,none⟩=some (.int .i64 x.2)):=
  λw' hg=>⟨(bh hg (a:=⟨w.heap.size,6,none⟩) aB).1.trans x6,(bh hg (a:=⟨eb,27,none⟩) aG).1.trans a4,(bh hg (a:=⟨w.heap.size+1,0,none⟩) a9).1.trans c0,(bh hg (a:=⟨w.heap.size+1,1,none⟩) a9).1.trans c1⟩
 go_region_held3 (λw'=>w'.cell? ⟨w.heap.size,6,none⟩=some (P0 eb)/\w'.cell? ⟨eb,27,none⟩=some (P0 sb)/\w'.cell? ⟨w.heap.size+1,0,none⟩=some (.int .i64 (x.1:Int))/\w'.cell? ⟨w.heap.size+1,1,none⟩=some (.int .i64 x.2)) (first|exact HS.out _ (bq (ax _ _))|exact HS.out _ a3.out) (first|(go_at_call 200;refine(AP sb pb eb n x kd vb M w1.drew (KS.out.kept (bq a0.out)) hn HX.out).mono ?_;rintro e w2 ⟨J,hc⟩;have a3:Hid (w1.grownBy w2 none):=⟨J.os,J.tape,J.output,J.size,J.block⟩;obtain⟨n2,ob,rfl,a7⟩:∃(n2:Int) (ob:Bool),e=.returned (.tuple #[.int .i64 n2,.bool ob])/\(((x.1=0\/vb.f.k x.1≠0)/\ob=false)\/((x.1≠0/\vb.f.k x.1=0)/\ob=true/\n2=((M x.1).length:Int))):=(by unfold nA at hc;split at hc;exact⟨_,_,hc,ag ⟨(by assumption),rfl⟩⟩;exact⟨_,_,hc,ab ⟨⟨λh=>(by rename_i hh;exact hh (ag h)),(by rename_i hh;exact Classical.byContradiction λh=>hh (ab h))⟩,rfl,rfl⟩⟩);have aC:=az a7;clear hc a7 J))
 all_goals
  have o:=dp a3.out H3.out;have e0:w2.cell? ⟨w.heap.size+1+1,0,none⟩=some (.int .i64 (u:Int)):=by simp[World.cell?,o]
  have e1:w2.cell? ⟨w.heap.size+1+1,1,none⟩=some (.int .i64 G):=by simp[World.cell?,o]
  have a6:=az (an a0.out a3.out);clear o x6 c0 c1 a4;rcases aC.out with⟨h1,rfl⟩|⟨h1,rfl,rfl⟩
  .have H:=az (show ¬kK vb.f M x (u,G)/\gI vb.f x (u,G)=2 from⟨λh=>h1.elim h.1 (λg=>g h.2.1),by unfold gI;rw[aj h1]⟩);clear h1 a2;go_wp2_with fail
   go_ret2
   exact⟨_,rfl,a6.out,ab ⟨H.out.1,by rw[H.out.2];rfl⟩⟩
  have hl:=a2 h1.1;have H1:=az h1;clear a2 h1;go_wp2_with fail
  refine(ft (u,G) _).mono ?_;rintro e w3 ⟨rfl,a5⟩;have Z:=az (an a6.out a5);clear a5 e0 e1;generalize aA:(M x.1).length=ln at *;have a8:=az aA;clear aA;by_cases W:u=0
  .have hd:decide (u=0)=true:=by simpa using W
   simp only[hd];by_cases h0:G<0
   .have H:=az (show ¬kK vb.f M x (u,G)/\gI vb.f x (u,G)=3 from⟨λh=>by have:(0:Int)<=G:=h.2.2.2.1;omega,by unfold gI;rw[aa (λg=>g.elim H1.out.1 (λg=>g H1.out.2)),aa (λg=>g W)]⟩)
    clear W hd;go_wp2_with fail
    go_ret2
    exact⟨_,rfl,Z.out,ab ⟨H.out.1,by rw[H.out.2];rfl⟩⟩
   obtain⟨i,hi⟩:∃i:Nat,G=i:=⟨G.toNat,by omega⟩;subst hi;by_cases aJ:i<ln
   .have H:=az (show kK vb.f M x (u,(i:Int)) from⟨H1.out.1,H1.out.2,W,by show(0:Int)<=(i:Int);omega,by show(i:Int)<_;rw[a8.out];omega⟩)
    have aF:decide ((i:Int)<0)=false:=by simp
    clear W hd h0;go_wp2_with fail
    go_ret2
    exact⟨_,rfl,Z.out,ag ⟨H.out,rfl⟩⟩
   have H:=az (show ¬kK vb.f M x (u,(i:Int))/\gI vb.f x (u,(i:Int))=3 from⟨λh=>by have:(i:Int)<_:=h.2.2.2.2;rw[a8.out]at this;omega,by unfold gI;rw[aa (λg=>g.elim H1.out.1 (λg=>g H1.out.2)),aa (λg=>g W)]⟩)
   have aF:decide ((i:Int)<0)=false:=by simp
   have aH:(ln:Int)<=(i:Int):=by omega
   clear W hd h0;go_wp2_with fail
   go_ret2
   exact⟨_,rfl,Z.out,ab ⟨H.out.1,by rw[H.out.2];rfl⟩⟩
  have hd:decide (u=0)=false:=by simpa using W
  simp only[hd];have H:=az (show ¬kK vb.f M x (u,G)/\gI vb.f x (u,G)=1 from⟨λh=>W h.2.2.1,by unfold gI;rw[aa (λg=>g.elim H1.out.1 (λg=>g H1.out.2)),aj W]⟩);clear W hd;go_wp2_with fail
  go_ret2
  exact⟨_,rfl,Z.out,ab ⟨H.out.1,by rw[H.out.2];rfl⟩⟩
theorem BF(op a b c fb tb eb cb L nx rb nr sb pb n:Nat)(back:Value)(kd:B.Kd)(vb:Vs)(R:Nat->B.V)(M:Nat->List B.V)(w:World)(hF:Fr w fb cb L nx rb nr back R)(hS:jm w sb pb eb n kd vb M)(hV:∀i,i<nr->B.qO kd.on n (R i))(hn:n<=200)(ha:a<nr)(hb:b<nr)(hc:c<nr)(aE:w.cell? ⟨eb,27,none⟩=some (P0 sb))(le:eb<w.heap.size)(aG:eb≠rb): Calls prog 101 #[dZ op a b c fb tb eb] w λe w'=>(kK vb.f M (R b) (R c)/\e=.returned (.int .i64 0)/\w.grownBy w' (some rb)/\Fr w' fb cb L nx rb nr back (B.set R a ((M (R b).1).getD (R c).2.toNat (0,0))))\/(¬kK vb.f M (R b) (R c)/\e=.returned (.int .i64 (gI vb.f (R b) (R c)))/\w.grownBy w' none):=by
 have KF:=az hF;have KS:=az hS;have HV:=az hV;have aQ:Hid (eb≠rb):=aG;clear hF hS hV aG;go_in;go_wp2_with fail
 have aB:=az (jf w op a b c fb tb eb);have a9:=az (ah w (.cells #[.int .u8 (op:Int),.int .u8 (a:Int),.int .u8 (b:Int),.int .u8 (c:Int),P0 fb,P0 tb,P0 eb] 186) none);generalize hW:w.alloc (.cells #[.int .u8 (op:Int),.int .u8 (a:Int),.int .u8 (b:Int),.int .u8 (c:Int),P0 fb,P0 tb,P0 eb] 186)=w1 at *;have b0:w1.heap.size=w.heap.size+1:=by rw[<-hW];simp
 clear hW;go_region_held3 (λw'=>w'.cell? ⟨w.heap.size,0,none⟩=some (.int .u8 (op:Int))/\w'.cell? ⟨w.heap.size,1,none⟩=some (.int .u8 (a:Int))/\w'.cell? ⟨w.heap.size,2,none⟩=some (.int .u8 (b:Int))/\w'.cell? ⟨w.heap.size,3,none⟩=some (.int .u8 (c:Int))/\w'.cell? ⟨w.heap.size,4,none⟩=some (P0 fb)/\w'.cell? ⟨w.heap.size,5,none⟩=some (P0 tb)/\w'.cell? ⟨w.heap.size,6,none⟩=some (P0 eb)) (first|exact fk aB.out|exact fk aL.out|exact fk aK.out|exact fk a6.out) (first|(go_at_call 86;refine(pO op a b c fb tb eb cb L nx rb nr back R w1.drew (KF.out.kept (bq a9.out)).1 (KF.out.kept (bq a9.out)).2.1 hb).mono ?_;rintro e w2 ⟨rfl,a8⟩;have a4:=az (an (bq a9.out) a8);have aL:=az (dp a8 (show w1.drew.heap[w.heap.size]? = _ from aB.out));clear a8)|(go_at_call 94;refine(qJ op a b c fb tb eb cb L nx rb nr back R w2 (KF.out.kept a4.out).1 (KF.out.kept a4.out).2.1 hc).mono ?_;rintro e w3 ⟨rfl,a1⟩;have Y:=az (an a4.out a1);have aK:=az (dp a1 aL.out);clear a1)|(go_at_call 158;refine(wN op a b c fb tb eb sb pb n (R b) (R c) kd vb M w3 (KS.out.kept Y.out) hn (HV.out b hb) ((bh Y.out (a:=⟨eb,27,none⟩) le).1.trans aE) (dm le Y.out.size)).mono ?_;rintro e w4 ⟨v,rfl,a5,a2⟩;have G:=az (an Y.out a5);have a6:=az (dp a5 aK.out);obtain⟨pv,wy,rfl⟩:∃(pv:Value) (wy:Int),v=.tuple #[pv,.int .i64 wy]:=(by rcases a2 with⟨_,h⟩|⟨_,h⟩;exact⟨_,_,h⟩;exact⟨_,_,h⟩);have aR:=az a2;clear a5 a2))
 all_goals
  rcases aR.out with⟨H,he⟩|⟨H,he⟩
  .have aA:=az H;obtain⟨o1,ok,o2,o3,o4⟩:=id H;have hp:1<=(R b).1/\(R b).1<=n/\kd.on (R b).1=true:=by
    rcases HV.out b hb with h|h
    .exact ch h o1
    exact⟨h.1,h.2.1,h.2.2.1⟩
   injection he with he;injection he with he;injection he with a7 o;injection o with o _;injection o with _ o;subst a7 o;obtain⟨i,hi⟩:∃i:Nat,(R c).2=(i:Int):=⟨(R c).2.toNat,by omega⟩;obtain⟨k,hk⟩:∃k,(R b).1=k+1:=⟨(R b).1-1,by omega⟩;have aM:i<(M (k+1)).length:=by rw[hi,hk]at o4;omega
   have aD:∀w':World,w.grownBy w' none->Calls prog 159 #[P0 sb,vA (R b),.int .i64 (R c).2] w' λe w''=>e=.returned (vA ((M (R b).1).getD (R c).2.toNat (0,0)))/\w'.grownBy w'' none:=by
    intro w' hg;have e1:R b=(k+1,(R b).2):=fV hk rfl;rw[hk,hi];have:=yt sb pb eb n k i (R b).2 kd vb M w' (KS.out.kept hg) hn (by omega) (by rw[<-hk];exact hp.2.2) aM;rw[<-e1]at this;exact this
   have aS:=az aD;generalize a0:(M (R b).1).getD (R c).2.toNat (0,0)=aU at *;have aC:=az a0;generalize aJ:(R c).2=yy at *;have aN:=az aJ;clear aJ;clear H ok o1 o2 o3 o4 hp hi hk aM aD a0;have W:=az (KF.out.kept G.out);obtain⟨x0,x1,x2,x3,x4,x5,x6⟩:=fk a6.out;have lx:=bz a6.out;have u:w.heap.size≠rb:=by have:=KF.out.2.1.lt;omega
   have aT:eb≠rb:=by have:=aQ.out;exact this
   have HS:Hid (∀w':World,dy (λk=>k=rb) w4 w'->(w'.cell? ⟨w.heap.size,0,none⟩=some (.int .u8 (op:Int))/\w'.cell? ⟨w.heap.size,1,none⟩=some (.int .u8 (a:Int))/\w'.cell? ⟨w.heap.size,2,none⟩=some (.int .u8 (b:Int))/\w'.cell? ⟨w.heap.size,3,none⟩=some (.int .u8 (c:Int))/\w'.cell? ⟨w.heap.size,4,none⟩=some (P0 fb)/\w'.cell? ⟨w.heap.size,5,none⟩=some (P0 tb)/\w'.cell? ⟨w.heap.size,6,none⟩=some (P0 eb)/\w'.cell? ⟨eb,27,none⟩=some (P0 sb))):=
    λw' hO=>⟨(hO.cell lx u).trans x0,(hO.cell lx u).trans x1,(hO.cell lx u).trans x2,(hO.cell lx u).trans x3,(hO.cell lx u).trans x4,(hO.cell lx u).trans x5,(hO.cell lx u).trans x6,(hO.cell (by omega) aT).trans ((bh G.out (a:=⟨eb,27,none⟩) le).1.trans aE)⟩
   have aO:=az (HS.out w4.drew (dk _ _));go_wp2_with fail
   go_region_held3 (λw'=>w'.cell? ⟨w.heap.size,0,none⟩=some (.int .u8 (op:Int))/\w'.cell? ⟨w.heap.size,1,none⟩=some (.int .u8 (a:Int))/\w'.cell? ⟨w.heap.size,2,none⟩=some (.int .u8 (b:Int))/\w'.cell? ⟨w.heap.size,3,none⟩=some (.int .u8 (c:Int))/\w'.cell? ⟨w.heap.size,4,none⟩=some (P0 fb)/\w'.cell? ⟨w.heap.size,5,none⟩=some (P0 tb)/\w'.cell? ⟨w.heap.size,6,none⟩=some (P0 eb)/\w'.cell? ⟨eb,27,none⟩=some (P0 sb)) (first|exact aO.out|exact aW.out|exact aY.out|exact aV.out) (first|(go_at_call 86;refine(pO op a b c fb tb eb cb L nx rb nr back R w4.drew (W.out.kept (bq (ax _ _))).1 (W.out.kept (bq (ax _ _))).2.1 hb).mono ?_;rintro e w5 ⟨rfl,y⟩;have a3:Hid (w4.grownBy w5 none):=⟨y.os,y.tape,y.output,y.size,y.block⟩;have aW:=az (HS.out w5 (dU a3.out));clear y)|(go_at_call 159;refine(aS.out w5 (an G.out a3.out)).mono ?_;rintro e w6 ⟨rfl,aI⟩;have J:=az (an a3.out aI);have aY:=az (HS.out w6 (dU J.out));clear aI)|(go_at_call 149;refine(js op a b c fb tb eb cb L nx rb nr back R aU w6 (W.out.kept J.out).1 (W.out.kept J.out).2.1 ha).mono ?_;rintro e w7 ⟨rfl,Z,aH⟩;have aV:=az (HS.out w7 ((dU (S:=λk=>k=rb) J.out).then Z (ag rfl)));have HR:=az (ay (an (eD (an G.out J.out)) Z) (ay (cm Z (W.out.kept J.out).1 (by intro e;injection e with e;exact KF.out.2.2 e)) aH));clear Z aH))
   all_goals
    go_wp2_with fail
    go_ret;exact ag ⟨aA.out,rfl,HR.out.1,HR.out.2.1,by rw[aN.out,aC.out];exact HR.out.2.2,KF.out.2.2⟩
  have aX:=sv vb.f (R b) (R c);generalize aF:gI vb.f (R b) (R c)=why at *;have aP:=az aF;injection he with he;injection he with he;injection he with a7 o;injection o with o _;injection o with _ o;subst a7 o;have aA:=az H;have aZ:¬((why:Int)=0):=by omega
  clear H aF aX;go_wp2_with fail
  go_ret;exact ab ⟨aA.out,by rw[aP.out];rfl,G.out⟩
end F
section
theorem AO(eb:Nat)(z:Int)(w:World)(h:z<0\/4<=z):Calls prog 130 #[P0 eb,.int .i64 z] w λe w'=>e=.returned (.tuple #[.pointer none,.bool false])/\w'=w:=by
 rcases h with h|h
 .go_in;go_wp2_with fail
  go_ret2
  exact⟨rfl,rfl⟩
 have i:¬z<0:=by omega
 go_in;go_wp2_with fail
 go_ret2
 exact⟨rfl,rfl⟩
theorem yr(eb k:Nat)(w:World)(h:k<4):Calls prog 130 #[P0 eb,.int .i64 (k:Int)] w λe w'=>e=.returned (.tuple #[Pt eb (34+k*2),.bool true])/\w'=w:=by
 have o:¬(k:Int)<0:=by omega
 have i:(k:Int)<4:=by omega
 go_in;go_wp2_with fail
 go_ret2
 exact⟨rfl,rfl⟩
theorem BC(a:Addr)(m n:Nat):(a.add m).add n=a.add (m+n):=by
 unfold Addr.add;by_cases h:m=0
 .subst h;simp
 by_cases e:n=0
 .subst e;simp
 rw[aa e,aa h,aa (by omega)];simp[Nat.add_assoc]
theorem Cx(eb:Nat)(ad:Option Addr)(n c:Nat)(xs:List (Int×Nat))(I:List (Int×Nat)->World->Prop)(w:World)(hI:I xs w)(hn:n=xs.length)(a4:n<=1000000000)(ha:ad=none->xs=[])(HC:∀ys w1,I ys w1->∀a,ad=some a->∀j x,xs[j]? = some x->w1.cell? (a.add (j*2))=some (.int .i64 x.1)/\w1.cell? (a.add (j*2+1))=some (.int .u8 (x.2:Int)))(HG:∀ys w1 w2,I ys w1->w1.grownBy w2 none->I ys w2)(HE:∀ys w1,I ys w1->eb<w1.heap.size)(HS:∀x r w1,I (x :: r) w1->0<=x.1/\x.1<4->Calls prog 131 #[Pt eb (34+x.1.toNat*2),.int .u8 (x.2:Int)] w1 λe w'=>e=.returned (.tuple #[])/\I r w')(HN:∀x r w1,I (x :: r) w1->¬(0<=x.1/\x.1<4)->I r w1): Calls prog 65 #[P0 eb,.slice ad n c] w λe w'=>e=.returned (.tuple #[])/\I [] w':=by
 have KI:=az hI;have KC:=az HC;have KG:=az HG;have KE:=az HE;have KS:=az HS;have KN:=az HN;have KA:=az ha;have HL:=az hn;clear hI HC HG HE HS HN ha hn;go_in;go_wp2_with fail
 go_loopw [10] (λi wr=>∃j:Nat,i=.int .i64 j/\j<=n/\Hid (I (xs.drop j) wr)) (λi _=>n-(intOf i).toNat)
 case atStart=>exact⟨0,rfl,by omega,by show I (xs.drop 0) w;rw[List.drop_zero];exact KI.out⟩
 case round=>
  obtain⟨j,rfl,hj,u⟩:=hrel;by_cases a5:j<n
  .obtain⟨x,H⟩:∃x,xs[j]? = some x:=⟨_,bn (by have:=HL.out;omega)⟩;obtain⟨a,rfl⟩:∃a,ad=some a:=by
    cases ad with
    | none=>rw[KA.out rfl]at H;simp at H
    | some a=>exact⟨a,rfl⟩
   obtain⟨c0,c1⟩:=KC.out _ _ u.out a rfl j x H;obtain⟨y,J⟩:=bu.1 H;have Z:xs.drop j=x :: xs.drop (j+1):=by rw[<-J];exact List.drop_eq_getElem_cons y
   rw[Z]at u;have W:(j:Int)<(n:Int):=by omega
   obtain⟨z,b⟩:=x;simp only at c0 c1;rw[<-BC]at c1;have G:wr.cell? ⟨(a.add (j*2)).block,(a.add (j*2)).off+1,none⟩=some (.int .u8 (b:Int)):=c1;clear c1;clear H J Z y;by_cases hz:0<=z/\z<4
   .obtain⟨k,rfl⟩:∃k:Nat,z=(k:Int):=⟨z.toNat,by omega⟩;have hk:k<4:=by omega
    have a2:Hid (∀w1,wr.grownBy w1 none->Calls prog 131 #[Pt eb (34+k*2),.int .u8 (b:Int)] w1 λe w'=>e=.returned (.tuple #[])/\I (xs.drop (j+1)) w'):=λw1 hg=>by
     have h1:=KS.out _ _ w1 (KG.out _ _ _ u.out hg) hz;simp only[lH]at h1;exact h1
    clear hz u;go_wp2_with fail
    refine(yr eb k _ hk).mono ?_;rintro e w2 ⟨rfl,rfl⟩;go_wp2_with fail
    refine(a2.out _ (ah _ _ _)).mono ?_;rintro e w3 ⟨rfl,a1⟩;have o:=az a1;clear a1 a2 c0 G;go_wp2_with fail
    go_roundw
    case rel=>exact⟨j+1,by simp,by omega,o⟩
    case measure=>simp[intOf];omega
   have Y:Hid (∀w1,wr.grownBy w1 none->I (xs.drop (j+1)) w1):=λw1 hg=>KN.out _ _ w1 (KG.out _ _ _ u.out hg) hz;have a3:z<0\/4<=z:=by omega
   clear hz u;go_wp2_with fail
   refine(AO eb z _ a3).mono ?_;rintro e w2 ⟨rfl,rfl⟩;have o:Hid (I (xs.drop (j+1)) (wr.alloc (.cells #[.int .i64 z,.int .u8 (b:Int)] 169))):=Y.out _ (ah _ _ _);clear Y c0 G;go_wp2_with fail
   go_roundw
   case rel=>exact⟨j+1,by simp,by omega,o⟩
   case measure=>simp[intOf];omega
  have W:¬((j:Int)<(n:Int)):=by omega
  have a0:j=xs.length:=by have:=HL.out;omega
  have o:Hid (I [] wr):=by
   have:=u.out;rw[a0,List.drop_length]at this;exact this
  clear u a0;go_wp2_with fail
  go_end0;exact⟨rfl,o.out⟩
